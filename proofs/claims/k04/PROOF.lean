import PyProof.Rows.All
import Wide.All
import OpenK.AllK
import Wide.FinOn
import HandS.ForMost
import HandS.ForExc
import HandS.Evl
import HandS.IsInst
import HandS.EndBits
import HandS.Conv
import HandS.Flow
import HandS.Style
import HandS.RaiseMore
import HandS.TupAny
import HandS.TupMul
import HandS.Strs
import HandS.SetBool
import HandS.Walk
import KE.KRevSl
import PyProof.EnumMake
import PyProof.Draws
import HandS.Zip0
import HandS.SetFor
import HandS.SortInts
import PyProof.ReprLen
import PyProof.Rows.ReprOcc
import HandS.DictComp
import HandS.Small
import KE.KMathG
import HandS.Gcd
import PyProof.SumWalkG
import PyProof.WalkInts
import HandS.ExcValue
import HandS.Finally
import PySem.Challenge.RW_moveafter_k04_blocks
set_option Elab.async false
set_option linter.all false
set_option maxRecDepth 100000
set_option maxHeartbeats 2000000
namespace MA
open PySem PySem.Spec PyProof.Rows L2

/-! ## plain data in the abstract heap -/
def kD : Key → PyData
  | .inl i => .int i
  | .inr x => .str x
def zipK : List (Key × V) → List PyData → List (PyData × PyData)
  | (k, _) :: r, d :: ds => (kD k, d) :: zipK r ds
  | _, _ => []
mutual
inductive Dq (K : PySem.W.Frag) (H : Hp) : V → PyData → Prop
  | non : Dq K H .non .none
  | bl (b : Bool) : Dq K H (.bl b) (.bool b)
  | int (i : Int) : Dq K H (.int i) (.int i)
  | str (x : Str) : Dq K H (.str x) (.str x)
  | lst {a : Addr} {xs : List V} {ds : List PyData} (h : H a = some (.lst xs)) (q : DqAll K H xs ds) : Dq K H (.ref a) (.list ds)
  | tup {a : Addr} {xs : List V} {ds : List PyData} (h : SqT K H a xs) (q : DqAll K H xs ds) : Dq K H (.ref a) (.tuple ds)
  | dct {a : Addr} {kvs : List (Key × V)} {ds : List PyData} (h : H a = some (.dK kvs)) (q : DqAll K H (kvs.map (·.2)) ds) : Dq K H (.ref a) (.dict (zipK kvs ds))
inductive DqAll (K : PySem.W.Frag) (H : Hp) : List V → List PyData → Prop
  | nil : DqAll K H [] []
  | cons {v : V} {vs : List V} {d : PyData} {ds : List PyData} (h : Dq K H v d) (q : DqAll K H vs ds) : DqAll K H (v :: vs) (d :: ds)
end
abbrev Ex := Evl.Ex
theorem Ex.refl (H : Hp) : Ex H H := fun _ _ h => h
theorem Ex.trans {H H1 H2 : Hp} (a : Ex H H1) (b : Ex H1 H2) : Ex H H2 := fun x o h => b x o (a x o h)
section
variable {K : PySem.W.Frag} {H H' : Hp}
mutual
theorem Dq.mono (e : Ex H H') : ∀ {v : V} {d : PyData}, Dq K H v d → Dq K H' v d
  | _, _, .non => .non
  | _, _, .bl b => .bl b
  | _, _, .int i => .int i
  | _, _, .str x => .str x
  | _, _, .lst h q => .lst (e _ _ h) (DqAll.mono e q)
  | _, _, .tup h q => .tup (Evl.ex_t e h) (DqAll.mono e q)
  | _, _, .dct h q => .dct (e _ _ h) (DqAll.mono e q)
theorem DqAll.mono (e : Ex H H') : ∀ {vs : List V} {ds : List PyData}, DqAll K H vs ds → DqAll K H' vs ds
  | _, _, .nil => .nil
  | _, _, .cons h q => .cons (Dq.mono e h) (DqAll.mono e q)
end
theorem DqAll.length : ∀ {vs : List V} {ds : List PyData}, DqAll K H vs ds → vs.length = ds.length
  | _, _, .nil => rfl
  | _, _, .cons _ q => congrArg (· + 1) (DqAll.length q)
theorem DqAll.append : ∀ {vs ws : List V} {ds es : List PyData}, DqAll K H vs ds → DqAll K H ws es → DqAll K H (vs ++ ws) (ds ++ es)
  | _, _, _, _, .nil, q => q
  | _, _, _, _, .cons h q, r => .cons h (DqAll.append q r)
theorem DqAll.get : ∀ {vs : List V} {ds : List PyData} {i : Nat} {v : V}, DqAll K H vs ds → vs[i]? = some v → ∃ d, ds[i]? = some d ∧ Dq K H v d
  | _, _, i, _, .nil, e => by simp at e
  | _, _, 0, _, .cons h _, e => by simp at e; subst e; exact ⟨_, rfl, h⟩
  | _, _, i + 1, v, .cons _ q, e => by
    obtain ⟨d, h1, h2⟩ := DqAll.get (i := i) (v := v) q (by simpa using e)
    exact ⟨d, by simpa using h1, h2⟩
theorem DqAll.get' : ∀ {vs : List V} {ds : List PyData} {i : Nat} {d : PyData}, DqAll K H vs ds → ds[i]? = some d → ∃ v, vs[i]? = some v ∧ Dq K H v d
  | _, _, i, _, .nil, e => by simp at e
  | _, _, 0, _, .cons h _, e => by simp at e; subst e; exact ⟨_, rfl, h⟩
  | _, _, i + 1, v, .cons _ q, e => by
    obtain ⟨d, h1, h2⟩ := DqAll.get' (i := i) (d := v) q (by simpa using e)
    exact ⟨d, by simpa using h1, h2⟩
theorem DqAll.take : ∀ {vs : List V} {ds : List PyData} (n : Nat), DqAll K H vs ds → DqAll K H (vs.take n) (ds.take n)
  | _, _, 0, _ => .nil
  | _, _, _ + 1, .nil => .nil
  | _, _, n + 1, .cons h q => .cons h (DqAll.take n q)
theorem DqAll.drop : ∀ {vs : List V} {ds : List PyData} (n : Nat), DqAll K H vs ds → DqAll K H (vs.drop n) (ds.drop n)
  | _, _, 0, q => q
  | _, _, _ + 1, .nil => .nil
  | _, _, n + 1, .cons _ q => DqAll.drop n q
theorem DqAll.reverse {vs : List V} {ds : List PyData} (q : DqAll K H vs ds) : DqAll K H vs.reverse ds.reverse := by
  induction vs generalizing ds with
  | nil => cases q; exact .nil
  | cons v vs ih =>
    cases q with
    | cons h q =>
      rw [List.reverse_cons, List.reverse_cons]
      exact (ih q).append (.cons h .nil)
theorem DqAll.rep {v : V} {d : PyData} (h : Dq K H v d) : ∀ n : Nat, DqAll K H (List.replicate n v) (List.replicate n d)
  | 0 => .nil
  | n + 1 => .cons h (DqAll.rep h n)
theorem DqAll.flatRep {vs : List V} {ds : List PyData} (q : DqAll K H vs ds) : ∀ n : Nat, DqAll K H (List.replicate n vs).flatten (List.replicate n ds).flatten
  | 0 => .nil
  | n + 1 => q.append (DqAll.flatRep q n)
theorem dqInts : ∀ ns : List Int, DqAll K H (ns.map V.int) (ns.map PyData.int)
  | [] => .nil
  | n :: r => .cons (.int n) (dqInts r)
theorem dqBls : ∀ ns : List Bool, DqAll K H (ns.map V.bl) (ns.map PyData.bool)
  | [] => .nil
  | n :: r => .cons (.bl n) (dqBls r)
theorem dqStrs : ∀ ns : List Str, DqAll K H (ns.map V.str) (ns.map PyData.str)
  | [] => .nil
  | n :: r => .cons (.str n) (dqStrs r)
theorem ofInts : ∀ {vs : List V} {ns : List Int}, DqAll K H vs (ns.map PyData.int) → vs = ns.map V.int
  | [], [], _ => rfl
  | _ :: _, [], q => by cases q
  | [], _ :: _, q => by cases q
  | _ :: _, n :: ns, q => by
    cases q with
    | cons h q =>
      cases h
      exact congrArg _ (ofInts q)
theorem ofBls : ∀ {vs : List V} {ns : List Bool}, DqAll K H vs (ns.map PyData.bool) → vs = ns.map V.bl
  | [], [], _ => rfl
  | _ :: _, [], q => by cases q
  | [], _ :: _, q => by cases q
  | _ :: _, n :: ns, q => by
    cases q with
    | cons h q =>
      cases h
      exact congrArg _ (ofBls q)
theorem ofStrs : ∀ {vs : List V} {ns : List Str}, DqAll K H vs (ns.map PyData.str) → vs = ns.map V.str
  | [], [], _ => rfl
  | _ :: _, [], q => by cases q
  | [], _ :: _, q => by cases q
  | _ :: _, n :: ns, q => by
    cases q with
    | cons h q =>
      cases h
      exact congrArg _ (ofStrs q)
end

/-! ## the order of worlds: B what is known for good, H the heap; M the lists that may change -/
structure Le (M : List Addr) (B H B' H' : Hp) : Prop where
  b : Ex B B'
  h : Ex B' H'
  k : ∀ a o, a ∉ M → H a = some o → H' a = some o
  t : ∀ a, H a ≠ none → H' a ≠ none
  n : ∀ a, B a = none → B' a ≠ none → H a = none
section
variable {M : List Addr} {B H B1 H1 B2 H2 : Hp}
theorem Le.refl (h : Ex B H) : Le M B H B H := ⟨Ex.refl B, h, fun _ _ _ e => e, fun _ e => e, fun _ e e' => absurd e e'⟩
theorem Le.trans (x : Le M B H B1 H1) (y : Le M B1 H1 B2 H2) : Le M B H B2 H2 := by
  refine ⟨x.b.trans y.b, y.h, fun a o ha e => y.k a o ha (x.k a o ha e), fun a e => y.t a (x.t a e), fun a e e2 => ?_⟩
  by_cases z : B1 a = none
  · have w := y.n a z e2
    cases q : H a with
    | none => rfl
    | some o => exact absurd w (x.t a (by rw [q]; simp))
  · exact x.n a e z
theorem Le.wk {M' : List Addr} (x : Le M B H B1 H1) (h : ∀ a ∈ M, a ∈ M') : Le M' B H B1 H1 := ⟨x.b, x.h, fun a o ha e => x.k a o (fun m => ha (h a m)) e, x.t, x.n⟩
theorem Le.any (x : Le [] B H B1 H1) : Le M B H B1 H1 := x.wk fun _ m => nomatch m
theorem Le.ex (x : Le [] B H B1 H1) : Ex H H1 := fun a o e => x.k a o (by simp) e
/-- what is not known for good stays so where it is there -/
theorem Le.own (x : Le M B H B1 H1) {p : Addr} {o : HO} (hp : H p = some o) (hb : B p = none) : B1 p = none := by
  cases q : B1 p with
  | none => rfl
  | some z => 
    have := x.n p hb (by rw [q]; simp)
    rw [hp] at this
    cases this
theorem Le.new {p : Addr} {o : HO} (h : Ex B H) (hp : H p = none) : Le M B H (upd B p o) (upd H p o) := by
  have hb : B p = none := by
    cases q : B p with
    | none => rfl
    | some z => rw [h p z q] at hp; cases hp
  refine ⟨Evl.Ex.new hb, fun a u e => ?_, fun a u _ e => Evl.Ex.new hp a u e, fun a e => ?_, fun a e e2 => ?_⟩
  · unfold upd at e ⊢
    split at e
    · rename_i z; rw [if_pos z]; exact e
    · rename_i z; rw [if_neg z]; exact h a u e
  · unfold upd
    split
    · simp
    · exact e
  · unfold upd at e2
    split at e2
    · rename_i z; rw [z]; exact hp
    · exact absurd e e2
/-- a list of ours is made: it is not known for good -/
theorem Le.made {p : Addr} {o : HO} (h : Ex B H) (hp : H p = none) : Le M B H B (upd H p o) := by
  refine ⟨Ex.refl B, fun a u e => Evl.Ex.new hp a u (h a u e), fun a u _ e => Evl.Ex.new hp a u e, fun a e => ?_, fun a e e2 => absurd e e2⟩
  unfold upd
  split
  · simp
  · exact e
/-- a list of ours is changed -/
theorem Le.put {p : Addr} {o : HO} (h : Ex B H) (hb : B p = none) (hM : p ∈ M) : Le M B H B (upd H p o) := by
  refine ⟨Ex.refl B, fun a u e => ?_, fun a u ha e => ?_, fun a e => ?_, fun a e e2 => absurd e e2⟩
  · have : a ≠ p := fun z => by rw [z, hb] at e; cases e
    rw [upd_ne this]; exact h a u e
  · have : a ≠ p := fun z => ha (z ▸ hM)
    rw [upd_ne this]; exact e
  · unfold upd
    split
    · simp
    · exact e
/-- a list of ours is given away: known for good from now on -/
theorem ex_give {p : Addr} {o : HO} (h : Ex B H) (hp : H p = some o) : Ex (upd B p o) H := fun a u e => by
  unfold upd at e
  split at e
  · rename_i z; cases e; rw [z]; exact hp
  · exact h a u e
theorem Le.give {B0 H0 : Hp} {p : Addr} {o : HO} (x : Le M B0 H0 B H) (h0 : H0 p = none) (hb : B p = none) (hp : H p = some o) : Le M B0 H0 (upd B p o) H := by
  refine ⟨x.b.trans (Evl.Ex.new hb), ex_give x.h hp, x.k, x.t, fun a e e2 => ?_⟩
  by_cases z : a = p
  · rw [z]; exact h0
  · rw [upd_ne z] at e2; exact x.n a e e2
end
end MA

set_option maxRecDepth 100000
set_option maxHeartbeats 2000000
namespace MA
open PySem PySem.Spec PyProof.Rows L2

/-! ## what is read of plain data -/
mutual
def noList : PyData → Bool
  | .list _ => false
  | .tuple xs => noListAll xs
  | .dict kvs => noListKv kvs
  | _ => true
def noListAll : List PyData → Bool
  | [] => true
  | x :: xs => noList x && noListAll xs
def noListKv : List (PyData × PyData) → Bool
  | [] => true
  | (_, v) :: r => noList v && noListKv r
end
section
variable {X : Cx} {pins : List (Addr × Obj)} {σ : L2.St} {H : Hp} {s : Shared}
theorem zipK_fst : ∀ {kvs : List (Key × V)} {ds : List PyData}, kvs.length = ds.length → (zipK kvs ds).map (·.1) = kvs.map (kD ·.1)
  | [], [], _ => rfl
  | (k, v) :: r, d :: ds, h => by
    show kD k :: (zipK r ds).map (·.1) = _
    rw [zipK_fst (by simpa using h)]
    rfl
  | [], _ :: _, h => by simp at h
  | _ :: _, [], h => by simp at h
theorem zipK_snd : ∀ {kvs : List (Key × V)} {ds : List PyData}, kvs.length = ds.length → (zipK kvs ds).map (·.2) = ds
  | [], [], _ => rfl
  | (k, v) :: r, d :: ds, h => by
    show d :: (zipK r ds).map (·.2) = _
    rw [zipK_snd (by simpa using h)]
  | [], _ :: _, h => by simp at h
  | _ :: _, [], h => by simp at h
theorem noListKv_snd : ∀ kvs : List (PyData × PyData), noListKv kvs = noListAll (kvs.map (·.2))
  | [] => by simp [noListKv, noListAll]
  | (k, v) :: r => by simp [noListKv, noListAll, noListKv_snd r]
theorem reads_keys {h : Heap} : ∀ {es : List DictEntry} {kvs : List (Key × V)} {vs : List (Key × Value)}, Pairs (mixKind X.prog X.w) es vs → KV kvs vs → ReadsAll h (es.map (·.key)) (kvs.map (kD ·.1)) []
  | [], _, _, p, r => by
    cases p
    cases r
    exact .nil
  | e :: es, _, _, p, r => by
    cases p with
    | cons p1 p2 p3 =>
      cases r with
      | cons r1 r2 =>
        rename_i a l
        have e1 : a.1 = _ := r1.1
        have q := reads_keys (h := h) p3 r2
        have z : Reads h e.key (kD a.1) [] := by
          rw [e1]
          rcases keyIs_shape (show keyIs _ e.key = true from p1) with ⟨i, t, z1, z2⟩ | ⟨x, t, z1, z2⟩
          · rw [z1, z2]; exact .int i t
          · rw [z1, z2]; exact .str x t
        exact ReadsAll.cons (as := []) (bs := []) z q
theorem vals_pairs : ∀ {es : List DictEntry} {kvs : List (Key × V)} {vs : List (Key × Value)}, Pairs (mixKind X.prog X.w) es vs → KV kvs vs → Vals (kvs.map (·.2)) (es.map (·.val))
  | [], _, _, p, r => by
    cases p
    cases r
    exact .nil
  | e :: es, _, _, p, r => by
    cases p with
    | cons p1 p2 p3 =>
      cases r with
      | cons r1 r2 => exact .cons (by show RelV _ e.val; rw [p2]; exact r1.2) (vals_pairs p3 r2)
theorem append_ne {as bs : List Addr} (h1 : ∀ b ∈ as, (b == sysModules) = false) (h2 : ∀ b ∈ bs, (b == sysModules) = false) : ∀ b ∈ as ++ bs, (b == sysModules) = false := fun b hb => (List.mem_append.mp hb).elim (h1 b) (h2 b)
mutual
theorem Dq.reads (I : Inv X pins σ H s) : ∀ {v : V} {d : PyData} {u : Value}, Dq X.K H v d → RelV v u → ∃ as, Reads s.heap u d as ∧ (noList d = true → ∀ b ∈ as, (b == sysModules) = false)
  | _, _, _, .non, r => by
    cases r
    exact ⟨_, Reads.none, fun _ b hb => by cases hb⟩
  | _, _, _, .bl b, r => by
    cases r
    exact ⟨_, Reads.bool b, fun _ b hb => by cases hb⟩
  | _, _, _, .int i, r => by
    obtain ⟨t, rfl⟩ := r
    exact ⟨_, Reads.int i t, fun _ b hb => by cases hb⟩
  | _, _, _, .str x, r => by
    obtain ⟨t, rfl⟩ := r
    exact ⟨_, Reads.str x t, fun _ b hb => by cases hb⟩
  | _, _, _, .lst h q, r => by
    cases r
    obtain ⟨its, rv, ⟨o, n, ho, hc, _, hd⟩, _⟩ := I.list (.inl (.inl h))
    obtain ⟨as, hr, _⟩ := DqAll.reads I q rv
    exact ⟨_, Reads.list ho hc hd hr, fun z => by simp [noList] at z⟩
  | _, _, _, .tup h q, r => by
    cases r
    obtain ⟨its, rv, ⟨o, ho, hc, n, hd⟩, _⟩ := I.tuple h
    obtain ⟨as, hr, hn⟩ := DqAll.reads I q rv
    exact ⟨_, Reads.tuple ho hc hd hr, fun z => hn (by simpa [noList] using z)⟩
  | _, _, _, .dct (kvs := kvs) (ds := ds) h q, r => by
    cases r
    obtain ⟨_, hne, vs, rv, o, es, ep, ho, hx, hd, _, hp, _⟩ := I.hok _ _ h
    obtain ⟨as, hr, hn⟩ := DqAll.reads I q (vals_pairs hp rv)
    have hl : kvs.length = ds.length := by
      have e := q.length
      rw [List.length_map] at e
      exact e
    have hk := reads_keys (h := s.heap) hp rv
    refine ⟨_, Reads.dict ho hx.1 hd (kvs := zipK kvs ds) (as := []) (bs := as) ?_ ?_, fun z b hb => ?_⟩
    · rw [zipK_fst hl]; exact hk
    · rw [zipK_snd hl]; exact hr
    · simp only [noList, noListKv_snd, zipK_snd hl] at z
      rcases List.mem_cons.mp hb with e | hb
      · rw [e]; exact hne
      · exact hn z b (by simpa using hb)
theorem DqAll.reads (I : Inv X pins σ H s) : ∀ {vs : List V} {ds : List PyData} {us : List Value}, DqAll X.K H vs ds → Vals vs us → ∃ as, ReadsAll s.heap us ds as ∧ (noListAll ds = true → ∀ b ∈ as, (b == sysModules) = false)
  | _, _, _, .nil, r => by
    cases r
    exact ⟨_, ReadsAll.nil, fun _ b hb => by cases hb⟩
  | _, _, _, .cons h q, r => by
    cases r with
    | cons r1 r2 =>
      obtain ⟨as, q1, n1⟩ := Dq.reads I h r1
      obtain ⟨bs, q2, n2⟩ := DqAll.reads I q r2
      refine ⟨_, ReadsAll.cons q1 q2, fun z => ?_⟩
      simp only [noListAll, Bool.and_eq_true] at z
      exact append_ne (n1 z.1) (n2 z.2)
end
end
section
variable {X : Cx}
/-- repr of plain data, where no repr is under way -/
def rRepr (K : PySem.W.Frag) : List V → Hp → VK → Prop := fun xs H Q => ∃ (x : V) (d : PyData), xs = [x] ∧ Dq K H x d ∧ d.showable = true ∧ (d.hasDict = false ∨ noList d = true) ∧ d.shown.length ≤ sizeLine ∧ d.depth ≤ 60 ∧ Q (.str d.shown) H
theorem call_repr (hg : X.A.guards = some []) (hu : X.A.units + 64 < cLine) : CallR X (.builtin "repr") (rRepr X.K) := by
  intro pins s σ H xs us Q I r h
  obtain ⟨x, d, rfl, hx, hs, hn, hz, hd, q⟩ := h
  obtain ⟨u, rfl, ru⟩ := vals1 r
  obtain ⟨as, hr, ha⟩ := Dq.reads I hx ru
  have hsm : d.hasDict = true → sysModules ∉ as := fun e => by
    rcases hn with z | z
    · rw [z] at e; cases e
    · intro m
      have := ha z _ m
      simp at this
  have fin : ∀ h' u tk, (∀ b o, s.heap.get? b = some o → h'.get? b = some o) → EP X pins σ Q (.str d.shown u) { s with heap := h', toks := tk } := fun h' u tk hk =>
    ⟨.str d.shown, H, I.kept hk, ⟨u, rfl⟩, q⟩
  cases hx with
  | non => cases ru; exact PySem.P.repr_of_none (fin s.heap _ _ fun _ _ e => e)
  | bl b => cases ru; exact PySem.P.repr_of_bool (by have := fin s.heap s.toks (s.toks + 1) fun _ _ e => e; simpa only [PyData.shown] using this)
  | int i => obtain ⟨t, rfl⟩ := ru; exact PySem.P.repr_of_int (by simpa [PyData.showable] using hs) (by have := fin s.heap s.toks (s.toks + 1) fun _ _ e => e; simpa only [PyData.shown] using this)
  | str y => obtain ⟨t, rfl⟩ := ru; exact PySem.P.repr_of_str (by have := fin s.heap s.toks (s.toks + 1) fun _ _ e => e; simpa only [PyData.shown] using this) (by simpa only [PyData.shown] using hz)
  | lst h1 h2 => cases ru; exact repr_of_reads' hr hs hsm hg (by omega) (fun _ _ e => e) fin hz
  | tup h1 h2 => cases ru; exact repr_of_reads' hr hs hsm hg (by omega) (fun _ _ e => e) fin hz
  | dct h1 h2 => cases ru; exact repr_of_reads' hr hs hsm hg (by omega) (fun _ _ e => e) fin hz
end
end MA

set_option maxRecDepth 100000
set_option maxHeartbeats 2000000
namespace MA
open PySem PySem.Spec PyProof.Rows L2

/-! ## the law's own call: no repr is under way around it -/
/-- the promise of a def whose caller has no repr under way -/
def FnG (P : Program) (w : World) (K : PySem.W.Frag) (mg : Str → Option Value) (base : Heap) (k : Nat) (f : Addr) (fd : FuncData) (ps : List Str) (sp : Sp) : Prop :=
  ∀ (A : Around) (outer : List Env) (s : Shared) (H : Hp) (us : List Value) (vs : List V) (Q : VK), A.guards = some [] → Room k A → Env0 P w K mg base A outer s H →
    BindsTo s fd ⟨us, []⟩ (ps.zip us) → Vals vs us → vs.length = ps.length → sp vs H Q E0 → codeAny (model P w) A (.call (.ref f) ⟨us, []⟩) (CR CX0 outer P w H s Q E0) s
section
variable {P : Program} {w : World} {K : PySem.W.Frag} {mg : Str → Option Value} {base : Heap}
theorem fnG {x qual : Str} {st : Stmt} {f : Addr} {fd : FuncData} {N ps : List Str} {k : Nat} {sp : Sp} (F : Fun K x qual st f fd) (S : FnScope N ps (defScope st))
    (hb : ∀ (cdv : Value) (A : Around) (outer : List Env) (s : Shared) (H : Hp) (vs : List V) (Q : VK), A.guards = some [] → Room k (A.deeper (envOfC qual (defScope st) s.heap.objs.size f cdv)) → sp vs H Q E0 →
      ∃ t, PSs (cxOf CX0 P w K mg base N qual (defScope st) f cdv A outer s H E0).nox (defBody st) t ∧ t { nx := fun _ H' => Q .non H', rt := Q } (start N vs) H) : FnG P w K mg base (k + 1) f fd ps sp := by
  obtain ⟨oc, od, kV, doc, pm, an, cdv, ct, osl, rfl, lk, hcd⟩ := F.ex
  intro A outer s H us vs Q hg hr e0 hbd rv hln hsp
  have kin : K.In s.heap := e0.mod.kin.keeps fun b o e => (e0.bs b o e).1
  refine codeAny_call_function hr.depth (kin _ _ lk) rfl S.co S.gen rfl (PySem.W.codeRec_of kin hcd) (hbd _ _ _ _ ?_)
  refine wpAny_newFunctionEnv_cells S.kind (fun y hy => ?_) fun env hv s1 x1 => ?_
  · rcases S.par y.1 (List.of_mem_zip hy).1 with z | z
    · exact .inl z
    · exact .inr ⟨z, PySem.W.cellsFrom_some _ _ _ (.inl z)⟩
  cases hv
  refine ⟨(e0.mod.nolimit.keeps fun b o e => (e0.bs b o e).1).keeps x1.toInCall.keep, codeAny_func ?_⟩
  obtain ⟨t, ht, hq⟩ := hb cdv A outer s H vs Q hg (hr.deeper _) hsp
  refine wpAny_mono (ht.nox.run [] s1 (start N vs) H _ (inv_start S hr.hd e0 hln rv x1) hq) (fun fl s2 h2 => ?_) fun e s2 h2 => h2
  cases fl with
  | ret u =>
    obtain ⟨v, σ2, H2, J, r2, q2⟩ := h2
    exact ⟨v, H2, J.os, J.bare, J.base, J.hok, r2, q2⟩
  | next =>
    obtain ⟨σ2, H2, J, q2⟩ := h2
    exact ⟨V.non, H2, J.os, J.bare, J.base, J.hok, rfl, q2⟩
  | brk =>
    obtain ⟨_, _, _, q2⟩ := h2
    exact q2.elim
  | cont =>
    obtain ⟨_, _, _, q2⟩ := h2
    exact q2.elim
/-- the abstract heap at the law's entry: the script alone, locked, where the module does not hold it -/
def scriptH (K : PySem.W.Frag) (a : Addr) (vs : List Value) (ns : List Int) : Hp := fun b =>
  if b = a ∧ K.lookup a = none then some (.frz { cls := .type "list", data := .seq vs.toArray } (.lst (ns.map V.int))) else none
theorem scriptH_some {a b : Addr} {vs : List Value} {ns : List Int} {u : HO} (h : scriptH K a vs ns b = some u) : b = a ∧ K.lookup a = none ∧ u = .frz { cls := .type "list", data := .seq vs.toArray } (.lst (ns.map V.int)) := by
  unfold scriptH at h
  split at h
  · rename_i z; cases h; exact ⟨z.1, z.2, rfl⟩
  · cases h
theorem law_callG {mb : Str → Option Value} {k : Nat} {fa a : Addr} {fd : FuncData} {x : Str} {sp : Sp} {s1 : Shared} {vs : List Value} {ns : List Int}
    (kin : K.In s1.heap) (g1 : s1.heap.Ns mainGlobals mg) (g2 : s1.heap.Ns builtinsNs mb) (g3 : ∀ x : Str, x ≠ "__name__" → mb x = bootBuiltins x) (nl : s1.heap.NoLimit) (gn : s1.gens = #[])
    (ha : s1.heap.get? a = some { cls := .type "list", data := .seq vs.toArray }) (hi : IntsAre vs ns) (hl : ns.length ≤ sizeLine) (hr : Room k callerA)
    (F : ∀ base : Heap, K.In base → base.Ns mainGlobals mg → FnG P w K mg base k fa fd [x] sp) (hb : ∀ (s : Shared) (u : Value), BindsTo s fd ⟨[u], []⟩ [(x, u)])
    (hsp : ∀ H : Hp, Only H → SqL K H a (ns.map V.int) → sp [.ref a] H (fun v _ => v = .bl true) E0) :
    codeAny (model P w) callerA (.call (.ref fa) ⟨[.ref a], []⟩) (fun r s' => r = .ok (.ret (.bool true)) ∧ OldK s1.heap s'.heap ∧ s'.os = s1.os ∧ AllBare s'.gens) s1 := by
  have rv := vals_ints hi
  have hle := hi.length
  generalize hH : scriptH K a vs ns = H
  have inH : ∀ {b u}, H b = some u → b = a ∧ K.lookup a = none ∧ u = .frz { cls := .type "list", data := .seq vs.toArray } (.lst (ns.map V.int)) := fun e => scriptH_some (by rw [hH]; exact e)
  have nk : ∀ b o, K.lookup b = some o → H b = none := fun b o e => by
    cases q : H b with
    | none => rfl
    | some u =>
      obtain ⟨z1, z2, _⟩ := inH q
      rw [z1, z2] at e; cases e
  have nd : ∀ {b o es ep}, s1.heap.get? b = some o → o.data = .dict es ep → H b = none := fun {b o es ep} e d => by
    cases q : H b with
    | none => rfl
    | some u =>
      obtain ⟨z1, _, _⟩ := inH q
      rw [z1, ha] at e
      cases e
      cases d
  have ns' : ∀ {b m}, s1.heap.Ns b m → (hidT s1.heap H).Ns b m := fun {b m} ⟨o, es, ep, e, d, z⟩ => ⟨o, es, ep, hidT_get e (nd e d), d, z⟩
  have kb : K.In (hidT s1.heap H) := fun b o e => hidT_get (kin b o e) (nk b o e)
  have ok : HOk P w H s1.heap := fun b u e => by
    obtain ⟨z1, _, z3⟩ := inH e
    subst z1 z3
    exact ⟨ha, by rw [List.length_map]; exact hl, vs, _, rv, ha⟩
  have only : Only H := fun b => by
    cases q : H b with
    | none => exact .inl rfl
    | some u => obtain ⟨_, _, z⟩ := inH q; exact .inr ⟨_, _, by rw [z]⟩
  have sq : SqL K H a (ns.map V.int) := by
    cases q : K.lookup a with
    | none => exact .inl (.inr ⟨{ cls := .type "list", data := .seq vs.toArray }, by rw [← hH]; exact if_pos ⟨rfl, q⟩⟩)
    | some o =>
      have e := kin a o q
      rw [ha] at e
      cases e
      exact .inr ⟨_, vs.toArray, _, q, rfl, rfl, rfl, by rw [List.size_toArray, hle]; exact hl, by simpa using rv⟩
  have md : Mod K mg (hidT s1.heap H) := ⟨kb, ns' g1, ⟨mb, ns' g2, g3⟩, let ⟨mc, h1, h2⟩ := nl; ⟨mc, ns' h1, h2⟩⟩
  have e0 : Env0 P w K mg (hidT s1.heap H) callerA [] s1 H := ⟨rfl, md, fun b o e => of_hidT e, Nat.le_of_eq (hidT_size _ _), trivial, fun b hb => (by cases hb), ok, .of_eq gn⟩
  refine codeAny_mono (F _ kb (ns' g1) callerA [] s1 H [.ref a] [.ref a] _ rfl hr e0 (hb s1 (.ref a)) (.cons rfl .nil) rfl (hsp H only sq)) fun r s2 h2 => ?_
  cases r with
  | error e => exact False.elim h2
  | ok fl =>
    cases fl with
    | next => exact False.elim h2
    | brk => exact False.elim h2
    | cont => exact False.elim h2
    | ret u =>
      obtain ⟨v, H2, os, bare, un, ok2, r2, q2⟩ := h2
      cases (show v = .bl true from q2)
      cases (show u = Value.bool true from r2)
      refine ⟨rfl, OldK.of_keep fun b o e => ?_, os, bare⟩
      cases q : H b with
      | none => exact un.keep b o e q (fun z => (by cases z)) (fun z => (by cases z))
      | some u =>
        obtain ⟨z1, z2, z3⟩ := inH q
        rw [z3] at q
        have w1 := (ok b _ q).1
        have w2 := (ok2 b _ (un.frzs b _ _ q)).1
        rw [e] at w1
        cases w1
        exact w2
end
/-- the end of a law's row, where the law itself may call repr -/
theorem walk_ofG {l : PySem.W.OpenLaw} {n k : Nat} {q : Program} {loose : List Str} {XP : (Str → Option Value) → Heap → Prop} {YP : World → Heap → Prop} {d : DefRec} {K : Params → PySem.W.Frag} {sp : World → Sp} {x : Str}
    (hn : l.most = some n) (hn2 : n ≤ sizeLine) (hdf : d.params.defaults = []) (hr : Room k callerA) (hY : ∀ (w : World) (h : Heap), YP w h → (K w.params).In h)
    (F : ∀ (w : World) (mg : Str → Option Value) (fa : Addr) (h : Heap), (K w.params).In h → h.Ns mainGlobals mg → mg d.name = some (.ref fa) →
      ∃ fd : FuncData, (∀ (s : Shared) (u : Value), BindsTo s fd ⟨[u], []⟩ [(x, u)]) ∧ ∀ base : Heap, (K w.params).In base → base.Ns mainGlobals mg → FnG l.prog w (K w.params) mg base k fa fd [x] (sp w))
    (hsp : ∀ (w : World) (H : Hp) (a : Addr) (ns : List Int), ns.length ≤ n → Only H → SqL (K w.params) H a (ns.map V.int) → sp w [.ref a] H (fun v _ => v = .bl true) E0) :
    PySem.W.WalkO q loose XP YP l.row.toRowW d [] (fun f vs => PySem.call f vs) := by
  refine Att.attach_call hn hdf fun w s0 s1 mg mb fa o pm cd doc a vs ns G Y ho hd hcd hmg hobj hints hlen hg => ?_
  obtain ⟨fd, hb, hF⟩ := F w mg fa _ (hY w _ Y) G.T.g hmg
  exact law_callG (hY w _ Y) G.T.g G.T.b G.T.builtins G.T.nolimit hg hobj hints (Nat.le_trans hlen hn2) hr hF hb fun H h1 h2 => hsp w H a ns hlen h1 h2
end MA

set_option maxRecDepth 100000
set_option maxHeartbeats 2000000
namespace MA
open PySem PySem.Spec PyProof.Rows L2

/-! ## what an expression is worth, in plain data -/
section
variable (K : PySem.W.Frag)
def Ev (te : TE) (σ : L2.St) (B H : Hp) (d : PyData) : Prop := ∀ B1 H1, Le [] B H B1 H1 → ∀ Q : VK, (∀ v B2 H2, Le [] B1 H1 B2 H2 → Dq K B2 v d → Q v H2) → te σ H1 Q
def EvT (t : TT) (σ : L2.St) (B H : Hp) (b : Bool) : Prop := ∀ B1 H1, Le [] B H B1 H1 → ∀ Q : Bool → Hp → Prop, (∀ B2 H2, Le [] B1 H1 B2 H2 → Q b H2) → t σ H1 Q
def EvA (ta : TA) (σ : L2.St) (B H : Hp) (ds : List PyData) : Prop := ∀ B1 H1, Le [] B H B1 H1 → ∀ Q : List V → Hp → Prop, (∀ vs B2 H2, Le [] B1 H1 B2 H2 → DqAll K B2 vs ds → Q vs H2) → ta σ H1 Q
def EvO (t : TO) (σ : L2.St) (B H : Hp) (o : Option Int) : Prop := ∀ B1 H1, Le [] B H B1 H1 → ∀ Q : Option Int → Hp → Prop, (∀ B2 H2, Le [] B1 H1 B2 H2 → Q o H2) → t σ H1 Q
/-- rules by values: an operator, a call -/
def RV (r : R2) (x y z : PyData) : Prop := ∀ B H v u, Ex B H → Dq K B v x → Dq K B u y → ∀ Q : VK, (∀ w B' H', Le [] B H B' H' → Dq K B' w z → Q w H') → r v u H Q
def RU (r : V → Hp → VK → Prop) (x z : PyData) : Prop := ∀ B H v, Ex B H → Dq K B v x → ∀ Q : VK, (∀ w B' H', Le [] B H B' H' → Dq K B' w z → Q w H') → r v H Q
def RC (r : List V → Hp → VK → Prop) (xs : List PyData) (z : PyData) : Prop := ∀ B H vs, Ex B H → DqAll K B vs xs → ∀ Q : VK, (∀ w B' H', Le [] B H B' H' → Dq K B' w z → Q w H') → r vs H Q
def RM (r : V → List V → Hp → VK → Prop) (x : PyData) (xs : List PyData) (z : PyData) : Prop := ∀ B H v vs, Ex B H → Dq K B v x → DqAll K B vs xs → ∀ Q : VK, (∀ w B' H', Le [] B H B' H' → Dq K B' w z → Q w H') → r v vs H Q
def RS (r : V → Option Int → Option Int → Hp → VK → Prop) (x : PyData) (lo hi : Option Int) (z : PyData) : Prop := ∀ B H v, Ex B H → Dq K B v x → ∀ Q : VK, (∀ w B' H', Le [] B H B' H' → Dq K B' w z → Q w H') → r v lo hi H Q
end
section
variable {K : PySem.W.Frag} {σ : L2.St} {B H : Hp} {ta tb te tc : TE} {t u : TT} {a b c d x y z : PyData} {r : R2} {v : V}
theorem Ev.up {B' H' : Hp} (l : Le [] B H B' H') (h : Ev K te σ B H d) : Ev K te σ B' H' d := fun B1 H1 l1 Q q => h B1 H1 (l.trans l1) Q q
theorem EvT.up {B' H' : Hp} {k : Bool} (l : Le [] B H B' H') (h : EvT t σ B H k) : EvT t σ B' H' k := fun B1 H1 l1 Q q => h B1 H1 (l.trans l1) Q q
theorem EvA.up {ta : TA} {ds : List PyData} {B' H' : Hp} (l : Le [] B H B' H') (h : EvA K ta σ B H ds) : EvA K ta σ B' H' ds := fun B1 H1 l1 Q q => h B1 H1 (l.trans l1) Q q
theorem ev_var {i : Nat} (h : σ[i]? = some (some v)) (hd : Dq K B v d) : Ev K (tVar i) σ B H d := fun B1 H1 l Q q => ⟨v, h, q v B1 H1 (Le.refl l.h) (hd.mono l.b)⟩
theorem ev_c (hd : Dq K B v d) : Ev K (tC v) σ B H d := fun B1 H1 l Q q => q v B1 H1 (Le.refl l.h) (hd.mono l.b)
theorem ev_i {i : Int} : Ev K (tC (.int i)) σ B H (.int i) := ev_c (.int i)
theorem ev_s {s : Str} : Ev K (tC (.str s)) σ B H (.str s) := ev_c (.str s)
theorem ev_b {k : Bool} : Ev K (tC (.bl k)) σ B H (.bool k) := ev_c (.bl k)
theorem ev_n : Ev K (tC .non) σ B H .none := ev_c .non
theorem ev_op (ha : Ev K ta σ B H x) (hb : Ev K tb σ B H y) (hr : RV K r x y z) : Ev K (tOp r ta tb) σ B H z := fun B1 H1 l Q q =>
  ha B1 H1 l _ fun v B2 H2 l2 hv => hb B2 H2 (l.trans l2) _ fun w B3 H3 l3 hw => hr B3 H3 v w l3.h (hv.mono l3.b) hw Q fun o B4 H4 l4 ho => q o B4 H4 ((l2.trans l3).trans l4) ho
theorem ev_un {r : V → Hp → VK → Prop} (ha : Ev K ta σ B H x) (hr : RU K r x z) : Ev K (tUn r ta) σ B H z := fun B1 H1 l Q q =>
  ha B1 H1 l _ fun v B2 H2 l2 hv => hr B2 H2 v l2.h hv Q fun o B4 H4 l4 ho => q o B4 H4 (l2.trans l4) ho
theorem ea_nil : EvA K tNil σ B H [] := fun B1 H1 l Q q => q [] B1 H1 (Le.refl l.h) .nil
theorem ea_cons {tr : TA} {ds : List PyData} (ha : Ev K ta σ B H d) (hr : EvA K tr σ B H ds) : EvA K (tCons ta tr) σ B H (d :: ds) := fun B1 H1 l Q q =>
  ha B1 H1 l _ fun v B2 H2 l2 hv => hr B2 H2 (l.trans l2) _ fun vs B3 H3 l3 hs => q (v :: vs) B3 H3 (l2.trans l3) (.cons (hv.mono l3.b) hs)
theorem ev_tup {ts : TA} {ds : List PyData} (h : EvA K ts σ B H ds) (hz : ds.length ≤ sizeLine) : Ev K (tTup ts) σ B H (.tuple ds) := fun B1 H1 l Q q =>
  h B1 H1 l _ fun vs B2 H2 l2 hs => ⟨by rw [hs.length]; exact hz, fun p hp => q (.ref p) _ _ (l2.trans (Le.new l2.h hp)) (.tup (.inl (.inl upd_same)) (hs.mono (Le.new (M := []) l2.h hp).b))⟩
theorem ev_lst {ts : TA} {ds : List PyData} (h : EvA K ts σ B H ds) (hz : ds.length ≤ sizeLine) : Ev K (tLst ts) σ B H (.list ds) := fun B1 H1 l Q q =>
  h B1 H1 l _ fun vs B2 H2 l2 hs => ⟨by rw [hs.length]; exact hz, fun p hp => q (.ref p) _ _ (l2.trans (Le.new l2.h hp)) (.lst upd_same (hs.mono (Le.new (M := []) l2.h hp).b))⟩
theorem ev_cb {rr : List V → Hp → VK → Prop} {ts : TA} {ds : List PyData} (h : EvA K ts σ B H ds) (hr : RC K rr ds z) : Ev K (tCB rr ts) σ B H z := fun B1 H1 l Q q =>
  h B1 H1 l _ fun vs B2 H2 l2 hs => hr B2 H2 vs l2.h hs Q fun o B4 H4 l4 ho => q o B4 H4 (l2.trans l4) ho
theorem ev_sl {rr : V → Option Int → Option Int → Hp → VK → Prop} {tl th : TO} {lo hi : Option Int} (h : Ev K te σ B H x) (h1 : EvO tl σ B H lo) (h2 : EvO th σ B H hi) (hr : RS K rr x lo hi z) : Ev K (tSl rr te tl th) σ B H z := fun B1 H1 l Q q =>
  h B1 H1 l _ fun v B2 H2 l2 hv => h1 B2 H2 (l.trans l2) _ fun B3 H3 l3 => h2 B3 H3 ((l.trans l2).trans l3) _ fun B4 H4 l4 => hr B4 H4 v l4.h ((hv.mono l3.b).mono l4.b) Q fun o B5 H5 l5 ho => q o B5 H5 (((l2.trans l3).trans l4).trans l5) ho
theorem eo_none : EvO tNoPart σ B H none := fun B1 H1 l Q q => q B1 H1 (Le.refl l.h)
theorem eo_some {i : Int} (h : Ev K te σ B H (.int i)) : EvO (tPart te) σ B H (some i) := fun B1 H1 l Q q =>
  h B1 H1 l _ fun v B2 H2 l2 hv => by cases hv; exact ⟨i, rfl, q B2 H2 l2⟩
theorem ev_if {k : Bool} (h : EvT t σ B H k) (h1 : k = true → Ev K ta σ B H d) (h2 : k = false → Ev K tb σ B H d) : Ev K (tIf t ta tb) σ B H d := fun B1 H1 l Q q =>
  h B1 H1 l _ fun B2 H2 l2 => by
    cases k with
    | true => exact h1 rfl B2 H2 (l.trans l2) _ fun v B3 H3 l3 hv => q v B3 H3 (l2.trans l3) hv
    | false => exact h2 rfl B2 H2 (l.trans l2) _ fun v B3 H3 l3 hv => q v B3 H3 (l2.trans l3) hv
/-! tests -/
theorem et_B {k : Bool} (h : Ev K ta σ B H (.bool k)) : EvT (tB ta) σ B H k := fun B1 H1 l Q q => h B1 H1 l _ fun v B2 H2 l2 hv => by cases hv; exact ⟨k, rfl, q B2 H2 l2⟩
theorem et_test {k : Bool} (h : Ev K ta σ B H (.bool k)) : EvT (tTest ta) σ B H k := fun B1 H1 l Q q => h B1 H1 l _ fun v B2 H2 l2 hv => by cases hv; exact ⟨k, rfl, q B2 H2 l2⟩
theorem et_not {k : Bool} (h : EvT t σ B H k) : EvT (tNot t) σ B H (!k) := fun B1 H1 l Q q => h B1 H1 l _ fun B2 H2 l2 => q B2 H2 l2
theorem et_and {k j : Bool} (h1 : EvT t σ B H k) (h2 : k = true → EvT u σ B H j) : EvT (tAnd t u) σ B H (k && j) := fun B1 H1 l Q q => h1 B1 H1 l _ fun B2 H2 l2 => by
  cases k with
  | true => exact h2 rfl B2 H2 (l.trans l2) _ fun B3 H3 l3 => q B3 H3 (l2.trans l3)
  | false => exact q B2 H2 l2
theorem et_or {k j : Bool} (h1 : EvT t σ B H k) (h2 : k = false → EvT u σ B H j) : EvT (tOr t u) σ B H (k || j) := fun B1 H1 l Q q => h1 B1 H1 l _ fun B2 H2 l2 => by
  cases k with
  | true => exact q B2 H2 l2
  | false => exact h2 rfl B2 H2 (l.trans l2) _ fun B3 H3 l3 => q B3 H3 (l2.trans l3)
theorem ev_notV {k : Bool} (h : Ev K ta σ B H (.bool k)) : Ev K (tNotV ta) σ B H (.bool (!k)) := fun B1 H1 l Q q => h B1 H1 l _ fun v B2 H2 l2 hv => by cases hv; exact ⟨k, rfl, q _ B2 H2 l2 (.bl _)⟩
theorem ev_andV {k j : Bool} (h1 : Ev K ta σ B H (.bool k)) (h2 : k = true → Ev K tb σ B H (.bool j)) : Ev K (tAndV ta tb) σ B H (.bool (k && j)) := fun B1 H1 l Q q => h1 B1 H1 l _ fun v B2 H2 l2 hv => by
  cases hv
  refine ⟨k, rfl, ?_⟩
  cases k with
  | true => exact h2 rfl B2 H2 (l.trans l2) _ fun v B3 H3 l3 hv => q v B3 H3 (l2.trans l3) hv
  | false => exact q _ B2 H2 l2 (.bl _)
theorem ev_orV {k j : Bool} (h1 : Ev K ta σ B H (.bool k)) (h2 : k = false → Ev K tb σ B H (.bool j)) : Ev K (tOrV ta tb) σ B H (.bool (k || j)) := fun B1 H1 l Q q => h1 B1 H1 l _ fun v B2 H2 l2 hv => by
  cases hv
  refine ⟨k, rfl, ?_⟩
  cases k with
  | true => exact q _ B2 H2 l2 (.bl _)
  | false => exact h2 rfl B2 H2 (l.trans l2) _ fun v B3 H3 l3 hv => q v B3 H3 (l2.trans l3) hv
theorem ev_chain {r r' : R2} {k j : Bool} (ha : Ev K ta σ B H a) (hb : Ev K tb σ B H b) (hc : k = true → Ev K tc σ B H c) (h1 : RV K r a b (.bool k)) (h2 : k = true → RV K r' b c (.bool j)) : Ev K (tChain r r' ta tb tc) σ B H (.bool (k && j)) := fun B1 H1 l Q q =>
  ha B1 H1 l _ fun v B2 H2 l2 hv => hb B2 H2 (l.trans l2) _ fun w B3 H3 l3 hw => h1 B3 H3 v w l3.h (hv.mono l3.b) hw _ fun o B4 H4 l4 ho => by
    cases ho
    refine ⟨k, rfl, ?_⟩
    have l24 := (l2.trans l3).trans l4
    cases k with
    | true => exact hc rfl B4 H4 (l.trans l24) _ fun y B5 H5 l5 hy => h2 rfl B5 H5 w y l5.h ((hw.mono l4.b).mono l5.b) hy Q fun o B6 H6 l6 ho => q o B6 H6 ((l24.trans l5).trans l6) ho
    | false => exact q _ B4 H4 l24 (.bl _)
theorem et_chain {r r' : R2} {k j : Bool} (ha : Ev K ta σ B H a) (hb : Ev K tb σ B H b) (hc : k = true → Ev K tc σ B H c) (h1 : RV K r a b (.bool k)) (h2 : k = true → RV K r' b c (.bool j)) : EvT (tTest (tChain r r' ta tb tc)) σ B H (k && j) := et_test (ev_chain ha hb hc h1 h2)
/-! ### a def's promise -/
/-- pure: arguments of which Pre holds, an answer of which Post holds; CX0 or an exception: never raised -/
def Pu (K : PySem.W.Frag) (Pre : List PyData → Prop) (Post : List PyData → PyData → Prop) : Sp := fun vs H Q _ => ∃ B ds, Ex B H ∧ DqAll K B vs ds ∧ Pre ds ∧ ∀ d, Post ds d → ∀ v B' H', Le [] B H B' H' → Dq K B' v d → Q v H'
/-- a def of one value -/
abbrev Pf (K : PySem.W.Frag) (Pre : List PyData → Prop) (f : List PyData → PyData) : Sp := Pu K Pre fun ds d => d = f ds
theorem ev_call {Pre : List PyData → Prop} {f : List PyData → PyData} {E : XK} {ts : TA} {ds : List PyData} (h : EvA K ts σ B H ds) (hp : Pre ds) : Ev K (tCall (Pf K Pre f) [] E ts) σ B H (f ds) := fun B1 H1 l Q q =>
  h B1 H1 l _ fun vs B2 H2 l2 hs => ⟨B2, ds, l2.h, by rw [List.append_nil]; exact hs, hp, fun d hd v B3 H3 l3 hv => by subst hd; exact q v B3 H3 (l2.trans l3) hv⟩
/-- from slots and heap to the promise's end -/
theorem pu_len {Pre : List PyData → Prop} {Post : List PyData → PyData → Prop} {n : Nat} (hn : ∀ ds, Pre ds → ds.length = n) (vs : List V) (H : Hp) (Q : VK) (E : XK) (h : Pu K Pre Post vs H Q E) : vs.length = n := by
  obtain ⟨B, ds, _, h1, h2, _⟩ := h
  rw [h1.length]
  exact hn ds h2
/-! ### statements -/
variable {D : Ends} {tu tw tz : TS}
theorem s_ret (h : Ev K te σ B H d) (e : Ex B H) (q : ∀ v B' H', Le [] B H B' H' → Dq K B' v d → D.rt v H') : tRet te D σ H := h B H (Le.refl e) _ q
theorem s_set {i : Nat} (h : Ev K te σ B H d) (e : Ex B H) (q : ∀ v B' H', Le [] B H B' H' → Dq K B' v d → D.nx (σ.set i (some v)) H') : tAsg te (gName i) D σ H := h B H (Le.refl e) _ q
theorem s_if {k : Bool} (h : EvT t σ B H k) (e : Ex B H) (h1 : k = true → ∀ B' H', Le [] B H B' H' → tu D σ H') (h2 : k = false → ∀ B' H', Le [] B H B' H' → tw D σ H') : tIfS t tu tw D σ H := h B H (Le.refl e) _ fun B' H' l => by
  cases k with
  | true => exact h1 rfl B' H' l
  | false => exact h2 rfl B' H' l
theorem s_drop (h : Ev K te σ B H d) (e : Ex B H) (q : ∀ B' H', Le [] B H B' H' → D.nx σ H') : tDrop te D σ H := h B H (Le.refl e) _ fun _ B' H' l _ => q B' H' l
/-- a name that is read while a list of ours is open: what is told of it is plain -/
theorem Ev.own {p : Addr} {o : HO} (h : Ev K te σ (upd B p o) H d) (hp : H p = some o) (hb : B p = none) (sc : ∀ {H1 H2 : Hp} {v : V}, Dq K H1 v d → Dq K H2 v d) : Ev K te σ B H d := fun B1 H1 l Q q => by
  have hb1 : B1 p = none := l.own hp hb
  have hp1 : H1 p = some o := l.k p o (by simp) hp
  refine h (upd B1 p o) H1 ⟨fun a u e => ?_, ex_give l.h hp1, l.k, l.t, fun a e1 e2 => ?_⟩ Q fun v B2 H2 l2 hv => q v B1 H2 ⟨Ex.refl B1, l.h.trans l2.ex, l2.k, l2.t, fun a e1 e2 => absurd e1 e2⟩ (sc hv)
  · unfold upd at e ⊢
    split at e
    · rename_i z; rw [if_pos z]; exact e
    · rename_i z; rw [if_neg z]; exact l.b a u e
  · by_cases z : a = p
    · rw [z, upd_same] at e1; cases e1
    · rw [upd_ne z] at e1 e2; exact l.n a e1 e2
end
end MA

set_option maxRecDepth 100000
set_option maxHeartbeats 2000000
namespace MA
open PySem PySem.Spec PyProof.Rows L2

/-! ## operators whatever the operands are -/
section
variable {X : Cx}
def rAddA (K : PySem.W.Frag) : R2 := fun x y H Q => (rI0 (fun i j => .int (i + j))) x y H Q ∨ ((∃ i j, x = .str i ∧ y = .str j ∧ i.length + j.length ≤ sizeLine ∧ Q (.str (i ++ j)) H) ∨ (rCatA K x y H Q ∨ rCat x y H Q))
theorem op_addA : OpR X (binaryOp .Add) (rAddA X.K) := op_add.or (op_add_str.or (op_catA.or op_cat))
def rMulA (K : PySem.W.Frag) : R2 := fun x y H Q => (rI CMul fun i j => .int (i * j)) x y H Q ∨ (rRepT K x y H Q ∨ rRep x y H Q)
theorem op_mulA : OpR X (binaryOp .Mult) (rMulA X.K) := op_mul.or (op_repT.or op_rep)
/-- == where one side is the empty list or the empty tuple -/
def rEq0 (K : PySem.W.Frag) (neg : Bool) : R2 := fun x y H Q => ∃ a b xs, x = .ref a ∧ y = .ref b ∧ ((SqL K H a xs ∧ SqL K H b []) ∨ (SqT K H a xs ∧ SqT K H b [])) ∧ Q (.bl (xor neg xs.isEmpty)) H
theorem op_eq0 (hu : X.A.units < cLine) : OpR X (compareOp .Eq) (rEq0 X.K false) := by
  intro pins s σ H x y v u Q I rx ry h
  obtain ⟨a, b, xs, rfl, rfl, hk, q⟩ := h
  cases rx
  cases ry
  rw [Bool.false_xor] at q
  rcases hk with ⟨h1, h2⟩ | ⟨h1, h2⟩
  · obtain ⟨its, rv, p1, _⟩ := I.list h1
    obtain ⟨jts, rw', p2, _⟩ := I.list h2
    have e2 := rw'.length
    have e1 := rv.length
    cases jts with
    | cons _ _ => simp at e2
    | nil =>
      cases xs with
      | nil =>
        cases its with
        | cons _ _ => simp at e1
        | nil => exact SeqAt.eq_listAt (e := fun _ => true) p1.isList p2.isList rfl hu (fun j h1 _ => by simp at h1) ⟨.bl _, H, I, rfl, by simpa using q⟩
      | cons x0 xr =>
        cases its with
        | nil => simp at e1
        | cons i0 ir => exact SeqAt.eq_list_lengthsAt p1.isList p2.isList (by simp) hu ⟨.bl _, H, I, rfl, by simpa using q⟩
  · obtain ⟨its, rv, p1, _⟩ := I.tuple h1
    obtain ⟨jts, rw', p2, _⟩ := I.tuple h2
    have e2 := rw'.length
    have e1 := rv.length
    cases jts with
    | cons _ _ => simp at e2
    | nil =>
      refine SeqAt.eq_tupleAt (e := fun _ => true) p1 p2 hu (fun j _ h2 => by simp at h2) ⟨.bl _, H, I, rfl, ?_⟩
      cases xs with
      | nil =>
        cases its with
        | cons _ _ => simp at e1
        | nil => simpa using q
      | cons x0 xr =>
        cases its with
        | nil => simp at e1
        | cons i0 ir => simpa using q
theorem op_ne0 (hu : X.A.units < cLine) : OpR X (compareOp .NotEq) (rEq0 X.K true) := by
  intro pins s σ H x y v u Q I rx ry h
  obtain ⟨a, b, xs, rfl, rfl, hk, q⟩ := h
  cases rx
  cases ry
  rw [Bool.true_xor] at q
  rcases hk with ⟨h1, h2⟩ | ⟨h1, h2⟩
  · obtain ⟨its, rv, p1, _⟩ := I.list h1
    obtain ⟨jts, rw', p2, _⟩ := I.list h2
    have e2 := rw'.length
    have e1 := rv.length
    cases jts with
    | cons _ _ => simp at e2
    | nil =>
      cases xs with
      | nil =>
        cases its with
        | cons _ _ => simp at e1
        | nil => exact SeqAt.RcNeAt.lists (e := fun _ => true) p1.isList p2.isList rfl hu (fun j h1 _ => by simp at h1) _ _ _ _ ⟨.bl _, H, I, rfl, by simpa using q⟩
      | cons x0 xr =>
        cases its with
        | nil => simp at e1
        | cons i0 ir => exact SeqAt.RcNeAt.lists_lengths p1.isList p2.isList (by simp) hu _ _ _ _ ⟨.bl _, H, I, rfl, by simpa using q⟩
  · obtain ⟨its, rv, p1, _⟩ := I.tuple h1
    obtain ⟨jts, rw', p2, _⟩ := I.tuple h2
    have e2 := rw'.length
    have e1 := rv.length
    cases jts with
    | cons _ _ => simp at e2
    | nil =>
      refine SeqAt.RcNeAt.tuples (e := fun _ => true) p1 p2 hu (fun j _ h2 => by simp at h2) _ _ _ _ ⟨.bl _, H, I, rfl, ?_⟩
      cases xs with
      | nil =>
        cases its with
        | cons _ _ => simp at e1
        | nil => simpa using q
      | cons x0 xr =>
        cases its with
        | nil => simp at e1
        | cons i0 ir => simpa using q
def rEqA (K : PySem.W.Frag) : R2 := fun x y H Q => rEq x y H Q ∨ rEq0 K false x y H Q
theorem op_eqA (hu : X.A.units < cLine) : OpR X (compareOp .Eq) (rEqA X.K) := op_eq.or (op_eq0 hu)
def rNeA (K : PySem.W.Frag) : R2 := fun x y H Q => rNe x y H Q ∨ rEq0 K true x y H Q
theorem op_neA (hu : X.A.units < cLine) : OpR X (compareOp .NotEq) (rNeA X.K) := op_ne.or (op_ne0 hu)
def rSlAny (K : PySem.W.Frag) : V → Option Int → Option Int → Hp → VK → Prop := fun x lo hi H Q => rSlA K x lo hi H Q ∨ (rSlL K x lo hi H Q ∨ rSlS x lo hi H Q)
theorem sl_any : SlR X (rSlAny X.K) := sl_tupA.or (sl_list.or sl_str)
end
end MA

set_option maxRecDepth 100000
set_option maxHeartbeats 2000000
namespace MA
open PySem PySem.Spec PyProof.Rows L2

/-! ## the rules by values, in plain data -/
def cutG {α : Type} (xs : List α) (lo hi : Option Int) : List α := (xs.drop (HT.sIx xs.length 0 lo)).take (HT.sIx xs.length xs.length hi - HT.sIx xs.length 0 lo)
section
variable {K : PySem.W.Frag} {B H : Hp}
theorem DqAll.cut {vs : List V} {ds : List PyData} (q : DqAll K H vs ds) (lo hi : Option Int) : DqAll K H (cutV vs lo hi) (cutG ds lo hi) := by
  unfold cutV cutG
  rw [q.length]
  exact (q.drop _).take _
theorem rv_addI {i j : Int} : RV K (rAddA K) (.int i) (.int j) (.int (i + j)) := fun B H v u e hv hu Q q => by
  cases hv; cases hu
  exact .inl ⟨i, j, rfl, rfl, q _ B H (Le.refl e) (.int _)⟩
theorem rv_addS {i j : Str} (hz : i.length + j.length ≤ sizeLine) : RV K (rAddA K) (.str i) (.str j) (.str (i ++ j)) := fun B H v u e hv hu Q q => by
  cases hv; cases hu
  exact .inr (.inl ⟨i, j, rfl, rfl, hz, q _ B H (Le.refl e) (.str _)⟩)
theorem rv_addT {as bs : List PyData} (hz : as.length + bs.length ≤ sizeLine) : RV K (rAddA K) (.tuple as) (.tuple bs) (.tuple (as ++ bs)) := fun B H v u e hv hu Q q => by
  cases hv with
  | tup h1 q1 =>
    cases hu with
    | tup h2 q2 =>
      rename_i a xs b ys
      refine .inr (.inr (.inl ⟨a, b, xs, ys, rfl, rfl, Evl.ex_t e h1, Evl.ex_t e h2, by rw [q1.length, q2.length]; exact hz, fun z => ?_, fun z1 z2 => ?_, fun z1 z2 p hp => ?_⟩))
      · subst z
        cases q1
        exact q _ B H (Le.refl e) (.tup h2 q2)
      · subst z2
        cases q2
        rw [List.append_nil] at q
        exact q _ B H (Le.refl e) (.tup h1 q1)
      · exact q _ _ _ (Le.new e hp) (.tup (.inl (.inl upd_same)) ((q1.append q2).mono (Le.new (M := []) e hp).b))
theorem rv_addL {as bs : List PyData} (hz : as.length + bs.length ≤ sizeLine) : RV K (rAddA K) (.list as) (.list bs) (.list (as ++ bs)) := fun B H v u e hv hu Q q => by
  cases hv with
  | lst h1 q1 =>
    cases hu with
    | lst h2 q2 =>
      refine .inr (.inr (.inr ⟨_, _, _, _, rfl, rfl, e _ _ h1, e _ _ h2, by rw [q1.length, q2.length]; exact hz, fun p hp => ?_⟩))
      exact q _ _ _ (Le.new e hp) (.lst upd_same ((q1.append q2).mono (Le.new (M := []) e hp).b))
theorem rv_int {C : Int → Int → Prop} {g : Int → Int → Int} {i j : Int} (c : C i j) : RV K (rI C fun i j => .int (g i j)) (.int i) (.int j) (.int (g i j)) := fun B H v u e hv hu Q q => by
  cases hv; cases hu
  exact ⟨i, j, rfl, rfl, c, q _ B H (Le.refl e) (.int _)⟩
theorem rv_int0 {g : Int → Int → Int} {i j : Int} : RV K (rI0 fun i j => .int (g i j)) (.int i) (.int j) (.int (g i j)) := fun B H v u e hv hu Q q => by
  cases hv; cases hu
  exact ⟨i, j, rfl, rfl, q _ B H (Le.refl e) (.int _)⟩
theorem rv_cmp {g : Int → Int → Bool} {i j : Int} : RV K (rI0 fun i j => .bl (g i j)) (.int i) (.int j) (.bool (g i j)) := fun B H v u e hv hu Q q => by
  cases hv; cases hu
  exact ⟨i, j, rfl, rfl, q _ B H (Le.refl e) (.bl _)⟩
theorem rv_mulI {i j : Int} (c : CMul i j) : RV K (rMulA K) (.int i) (.int j) (.int (i * j)) := fun B H v u e hv hu Q q => by
  cases hv; cases hu
  exact .inl ⟨i, j, rfl, rfl, c, q _ B H (Le.refl e) (.int _)⟩
theorem rv_mulT {ds : List PyData} {k : Int} (h0 : ds ≠ []) (h2 : 2 ≤ k) (h3 : k ≤ 1000) (h4 : ds.length ≤ 1000) : RV K (rMulA K) (.tuple ds) (.int k) (.tuple (List.replicate k.toNat ds).flatten) := fun B H v u e hv hu Q q => by
  cases hu
  cases hv with
  | tup h1 q1 =>
    refine .inr (.inl ⟨_, k, _, rfl, rfl, Evl.ex_t e h1, fun z => ?_, h2, h3, by rw [q1.length]; exact h4, fun p hp => ?_⟩)
    · subst z; cases q1; exact h0 rfl
    · exact q _ _ _ (Le.new e hp) (.tup (.inl (.inl upd_same)) ((q1.flatRep _).mono (Le.new (M := []) e hp).b))
/-! comparisons -/
theorem rv_eqI {i j : Int} : RV K (rEqA K) (.int i) (.int j) (.bool (decide (i = j))) := fun B H v u e hv hu Q q => by
  cases hv; cases hu
  refine .inl ⟨rfl, ?_⟩
  have h : decide (V.int i = V.int j) = decide (i = j) := by rw [dec_int]; by_cases z : i = j <;> simp [z]
  rw [h]
  exact q _ B H (Le.refl e) (.bl _)
theorem rv_neI {i j : Int} : RV K (rNeA K) (.int i) (.int j) (.bool (!decide (i = j))) := fun B H v u e hv hu Q q => by
  cases hv; cases hu
  refine .inl ⟨rfl, ?_⟩
  have h : decide (V.int i = V.int j) = decide (i = j) := by rw [dec_int]; by_cases z : i = j <;> simp [z]
  rw [h]
  exact q _ B H (Le.refl e) (.bl _)
theorem dec_strV {i j : Str} : decide (V.str i = V.str j) = decide (i = j) := by
  by_cases z : i = j
  · rw [z]; simp
  · rw [decide_eq_false z, decide_eq_false (fun e => z (V.str.inj e))]
theorem rv_eqS {i j : Str} : RV K (rEqA K) (.str i) (.str j) (.bool (decide (i = j))) := fun B H v u e hv hu Q q => by
  cases hv; cases hu
  refine .inl ⟨rfl, ?_⟩
  rw [dec_strV]
  exact q _ B H (Le.refl e) (.bl _)
theorem rv_neS {i j : Str} : RV K (rNeA K) (.str i) (.str j) (.bool (!decide (i = j))) := fun B H v u e hv hu Q q => by
  cases hv; cases hu
  refine .inl ⟨rfl, ?_⟩
  rw [dec_strV]
  exact q _ B H (Le.refl e) (.bl _)
theorem empty_iff {vs : List V} {ds : List PyData} (q : DqAll K H vs ds) : vs.isEmpty = ds.isEmpty := by
  cases q <;> rfl
theorem rv_eqL0 {ds : List PyData} : RV K (rEqA K) (.list ds) (.list []) (.bool ds.isEmpty) := fun B H v u e hv hu Q q => by
  cases hv with
  | lst h1 q1 =>
    cases hu with
    | lst h2 q2 =>
      cases q2
      refine .inr ⟨_, _, _, rfl, rfl, .inl ⟨.inl (.inl (e _ _ h1)), .inl (.inl (e _ _ h2))⟩, ?_⟩
      rw [Bool.false_xor, empty_iff q1]
      exact q _ B H (Le.refl e) (.bl _)
theorem rv_neL0 {ds : List PyData} : RV K (rNeA K) (.list ds) (.list []) (.bool (!ds.isEmpty)) := fun B H v u e hv hu Q q => by
  cases hv with
  | lst h1 q1 =>
    cases hu with
    | lst h2 q2 =>
      cases q2
      refine .inr ⟨_, _, _, rfl, rfl, .inl ⟨.inl (.inl (e _ _ h1)), .inl (.inl (e _ _ h2))⟩, ?_⟩
      rw [Bool.true_xor, empty_iff q1]
      exact q _ B H (Le.refl e) (.bl _)
theorem rv_eqT0 {ds : List PyData} : RV K (rEqA K) (.tuple ds) (.tuple []) (.bool ds.isEmpty) := fun B H v u e hv hu Q q => by
  cases hv with
  | tup h1 q1 =>
    cases hu with
    | tup h2 q2 =>
      cases q2
      refine .inr ⟨_, _, _, rfl, rfl, .inr ⟨Evl.ex_t e h1, Evl.ex_t e h2⟩, ?_⟩
      rw [Bool.false_xor, empty_iff q1]
      exact q _ B H (Le.refl e) (.bl _)
/-! in a row of ints, of texts -/
theorem inV_ints (i : Int) : ∀ ns : List Int, inV (.int i) (ns.map V.int) = decide (i ∈ ns)
  | [] => by simp [inV]
  | n :: r => by
    have h := inV_ints i r
    unfold inV at h ⊢
    rw [List.map_cons, List.any_cons, h]
    by_cases z : i = n
    · subst z; simp [eqV]
    · have z' : ¬ n = i := fun e => z e.symm
      simp [eqV, z, z']
theorem flat_ints (ns : List Int) : (ns.map V.int).all flatV = true := by
  induction ns with
  | nil => rfl
  | cons n r ih => rw [List.map_cons, List.all_cons, ih]; rfl
theorem inV_strs (i : Str) : ∀ ns : List Str, inV (.str i) (ns.map V.str) = decide (i ∈ ns)
  | [] => by simp [inV]
  | n :: r => by
    have h := inV_strs i r
    unfold inV at h ⊢
    rw [List.map_cons, List.any_cons, h]
    by_cases z : i = n
    · subst z; simp [eqV]
    · have z' : ¬ n = i := fun e => z e.symm
      simp [eqV, z, z']
theorem rv_inTI {i : Int} {ns : List Int} : RV K (rIn K false) (.int i) (.tuple (ns.map PyData.int)) (.bool (decide (i ∈ ns))) := fun B H v u e hv hu Q q => by
  cases hv
  cases hu with
  | tup h1 q1 =>
    cases ofInts q1
    refine ⟨_, _, rfl, .inr (Evl.ex_t e h1), rfl, flat_ints ns, ?_⟩
    rw [if_neg Bool.false_ne_true, inV_ints]
    exact q _ B H (Le.refl e) (.bl _)
theorem rv_notInTI {i : Int} {ns : List Int} : RV K (rIn K true) (.int i) (.tuple (ns.map PyData.int)) (.bool (!decide (i ∈ ns))) := fun B H v u e hv hu Q q => by
  cases hv
  cases hu with
  | tup h1 q1 =>
    cases ofInts q1
    refine ⟨_, _, rfl, .inr (Evl.ex_t e h1), rfl, flat_ints ns, ?_⟩
    rw [if_pos rfl, inV_ints]
    exact q _ B H (Le.refl e) (.bl _)
theorem rv_inLI {i : Int} {ns : List Int} : RV K (rIn K false) (.int i) (.list (ns.map PyData.int)) (.bool (decide (i ∈ ns))) := fun B H v u e hv hu Q q => by
  cases hv
  cases hu with
  | lst h1 q1 =>
    cases ofInts q1
    refine ⟨_, _, rfl, .inl (.inl (.inl (e _ _ h1))), rfl, flat_ints ns, ?_⟩
    rw [if_neg Bool.false_ne_true, inV_ints]
    exact q _ B H (Le.refl e) (.bl _)
theorem rv_notInLI {i : Int} {ns : List Int} : RV K (rIn K true) (.int i) (.list (ns.map PyData.int)) (.bool (!decide (i ∈ ns))) := fun B H v u e hv hu Q q => by
  cases hv
  cases hu with
  | lst h1 q1 =>
    cases ofInts q1
    refine ⟨_, _, rfl, .inl (.inl (.inl (e _ _ h1))), rfl, flat_ints ns, ?_⟩
    rw [if_pos rfl, inV_ints]
    exact q _ B H (Le.refl e) (.bl _)
theorem rv_inLS {i : Str} {ns : List Str} : RV K (rIn K false) (.str i) (.list (ns.map PyData.str)) (.bool (decide (i ∈ ns))) := fun B H v u e hv hu Q q => by
  cases hv
  cases hu with
  | lst h1 q1 =>
    cases ofStrs q1
    refine ⟨_, _, rfl, .inl (.inl (.inl (e _ _ h1))), rfl, flat_strs ns, ?_⟩
    rw [if_neg Bool.false_ne_true, inV_strs]
    exact q _ B H (Le.refl e) (.bl _)
theorem rv_notInTS {i : Str} {ns : List Str} : RV K (rIn K true) (.str i) (.tuple (ns.map PyData.str)) (.bool (!decide (i ∈ ns))) := fun B H v u e hv hu Q q => by
  cases hv
  cases hu with
  | tup h1 q1 =>
    cases ofStrs q1
    refine ⟨_, _, rfl, .inr (Evl.ex_t e h1), rfl, flat_strs ns, ?_⟩
    rw [if_pos rfl, inV_strs]
    exact q _ B H (Le.refl e) (.bl _)
/-! subscripts -/
theorem atI_dq {vs : List V} {ds : List PyData} {i : Int} {d : PyData} (q : DqAll K H vs ds) (h : atI ds i = some d) : ∃ v, atI vs i = some v ∧ Dq K H v d := by
  unfold atI at h ⊢
  rw [q.length]
  cases e : ixN ds.length i with
  | none => rw [e] at h; cases h
  | some j =>
    rw [e] at h
    exact q.get' h
theorem rv_ixT {ds : List PyData} {i : Int} {d : PyData} (h : atI ds i = some d) : RV K (rIx K) (.tuple ds) (.int i) d := fun B H v u e hv hu Q q => by
  cases hu
  cases hv with
  | tup h1 q1 =>
    obtain ⟨w, hw, hd⟩ := atI_dq q1 h
    exact .inr (.inl ⟨_, _, i, w, rfl, rfl, Evl.ex_t e h1, hw, q w B H (Le.refl e) hd⟩)
theorem rv_ixL {ds : List PyData} {i : Int} {d : PyData} (h : atI ds i = some d) : RV K (rIx K) (.list ds) (.int i) d := fun B H v u e hv hu Q q => by
  cases hu
  cases hv with
  | lst h1 q1 =>
    obtain ⟨w, hw, hd⟩ := atI_dq q1 h
    exact .inl ⟨_, _, i, w, rfl, rfl, .inl (.inl (e _ _ h1)), hw, q w B H (Le.refl e) hd⟩
theorem rs_T {ds : List PyData} {lo hi : Option Int} : RS K (rSlAny K) (.tuple ds) lo hi (.tuple (cutG ds lo hi)) := fun B H v e hv Q q => by
  cases hv with
  | tup h1 q1 =>
    refine .inl ⟨_, _, rfl, Evl.ex_t e h1, fun z => ?_, fun z p hp => ?_⟩
    · have e1 : cutG ds lo hi = ds := by
        unfold cutG
        rw [q1.length] at z
        rw [z.1, z.2, List.drop_zero, Nat.sub_zero]
        exact List.take_length
      rw [e1] at q
      exact q _ B H (Le.refl e) (.tup h1 q1)
    · exact q _ _ _ (Le.new e hp) (.tup (.inl (.inl upd_same)) ((q1.cut lo hi).mono (Le.new (M := []) e hp).b))
theorem rs_L {ds : List PyData} {lo hi : Option Int} : RS K (rSlAny K) (.list ds) lo hi (.list (cutG ds lo hi)) := fun B H v e hv Q q => by
  cases hv with
  | lst h1 q1 => exact .inr (.inl ⟨_, _, rfl, .inl (.inl (e _ _ h1)), fun p hp => q _ _ _ (Le.new e hp) (.lst upd_same ((q1.cut lo hi).mono (Le.new (M := []) e hp).b))⟩)
theorem rs_S {x : Str} {lo hi : Option Int} (hz : x.length ≤ sizeLine) : RS K (rSlAny K) (.str x) lo hi (.str (cutS x lo hi)) := fun B H v e hv Q q => by
  cases hv
  exact .inr (.inr ⟨x, rfl, hz, q _ B H (Le.refl e) (.str _)⟩)
/-! calls of built-ins -/
def rLenA (K : PySem.W.Frag) : List V → Hp → VK → Prop := fun xs H Q => ∃ p ys, xs = [V.ref p] ∧ (SqL K H p ys ∨ SqT K H p ys) ∧ Q (.int ys.length) H
theorem rc_lenT {ds : List PyData} : RC K (rLenA K) [.tuple ds] (.int ds.length) := fun B H vs e hv Q q => by
  cases hv with
  | cons h1 h2 =>
    cases h2
    cases h1 with
    | tup h q1 => exact ⟨_, _, rfl, .inr (Evl.ex_t e h), by rw [q1.length]; exact q _ B H (Le.refl e) (.int _)⟩
theorem rc_lenL {ds : List PyData} : RC K (rLenA K) [.list ds] (.int ds.length) := fun B H vs e hv Q q => by
  cases hv with
  | cons h1 h2 =>
    cases h2
    cases h1 with
    | lst h q1 => exact ⟨_, _, rfl, .inl (.inl (.inl (e _ _ h))), by rw [q1.length]; exact q _ B H (Le.refl e) (.int _)⟩
theorem rc_all {bs : List Bool} : RC K (rAll K) [.list (bs.map PyData.bool)] (.bool (bs.all id)) := fun B H vs e hv Q q => by
  cases hv with
  | cons h1 h2 =>
    cases h2
    cases h1 with
    | lst h q1 =>
      cases ofBls q1
      exact ⟨_, bs, rfl, .inl (.inl (e _ _ h)), q _ B H (Le.refl e) (.bl _)⟩
def tyN : PyData → String
  | .none => "NoneType"
  | .bool _ => "bool"
  | .int _ => "int"
  | .str _ => "str"
  | .list _ => "list"
  | .tuple _ => "tuple"
  | .dict _ => "dict"
theorem tyX_of {v : V} {d : PyData} (h : Dq K H v d) : TyX K H v (.type (tyN d)) := by
  cases h with
  | non => exact .base .non
  | bl b => exact .base (.bl b)
  | int i => exact .base (.int i)
  | str x => exact .base (.str x)
  | lst h q => exact .base (.lst h)
  | tup h q =>
    rcases h with (h | ⟨o, h⟩) | ⟨o, its, n, hk, hc, _⟩
    · exact .base (.tup h)
    · exact .fTuple h
    · exact .kTuple hk hc
  | dct h q => exact .base (.dK h)
/-- isinstance(x, T): the class is no plain datum, so the call is told as a whole -/
def isNS (a T : String) : Bool := (a == T) || (a == "bool" && T == "int")
def isN (T : String) (d : PyData) : Bool := isNS (tyN d) T
theorem kit_all : ∀ a ∈ ["NoneType", "bool", "int", "str", "list", "tuple", "dict"], ∀ T ∈ ["int", "bool", "tuple", "str", "dict", "list"], kitB a T = some (isNS a T) := by decide +kernel
theorem tyN_mem (d : PyData) : tyN d ∈ ["NoneType", "bool", "int", "str", "list", "tuple", "dict"] := by cases d <;> simp [tyN]
theorem kit_is {d : PyData} {T : String} (hT : T = "int" ∨ T = "bool" ∨ T = "tuple" ∨ T = "str" ∨ T = "dict" ∨ T = "list") : kitB (tyN d) T = some (isN T d) := 
  kit_all _ (tyN_mem d) T (by rcases hT with rfl | rfl | rfl | rfl | rfl | rfl <;> simp)
theorem ev_isi {te : TE} {σ : L2.St} {d : PyData} {T : String} (h : Ev K te σ B H d) (hT : T = "int" ∨ T = "bool" ∨ T = "tuple" ∨ T = "str" ∨ T = "dict" ∨ T = "list") :
    Ev K (tCB (rIsi K) (tCons te (tCons (tC (.ty T)) tNil))) σ B H (.bool (isN T d)) := fun B1 H1 l Q q =>
  h B1 H1 l _ fun v B2 H2 l2 hv => ⟨v, .ty T, .type (tyN d), .type T, isN T d, rfl, .ty T, tyX_of (hv.mono l2.h), kit_ty (kit_is hT), q _ B2 H2 l2 (.bl _)⟩
def rTupA (K : PySem.W.Frag) : List V → Hp → VK → Prop := fun xs H Q => ∃ p ys, xs = [V.ref p] ∧ ((SqL K H p ys ∧ ∀ l, H l = none → Q (.ref l) (upd H l (.tup ys))) ∨ (SqT K H p ys ∧ Q (.ref p) H))
theorem rc_tupL {ds : List PyData} : RC K (rTupA K) [.list ds] (.tuple ds) := fun B H vs e hv Q q => by
  cases hv with
  | cons h1 h2 =>
    cases h2
    cases h1 with
    | lst h q1 => exact ⟨_, _, rfl, .inl ⟨.inl (.inl (e _ _ h)), fun p hp => q _ _ _ (Le.new e hp) (.tup (.inl (.inl upd_same)) (q1.mono (Le.new (M := []) e hp).b))⟩⟩
def rLstA (K : PySem.W.Frag) : List V → Hp → VK → Prop := fun xs H Q => ∃ p ys, xs = [V.ref p] ∧ (SqL K H p ys ∨ SqT K H p ys) ∧ ∀ l, H l = none → Q (.ref l) (upd H l (.lst ys))
theorem rc_lstT {ds : List PyData} : RC K (rLstA K) [.tuple ds] (.list ds) := fun B H vs e hv Q q => by
  cases hv with
  | cons h1 h2 =>
    cases h2
    cases h1 with
    | tup h q1 => exact ⟨_, _, rfl, .inr (Evl.ex_t e h), fun p hp => q _ _ _ (Le.new e hp) (.lst upd_same (q1.mono (Le.new (M := []) e hp).b))⟩
theorem rc_lstL {ds : List PyData} : RC K (rLstA K) [.list ds] (.list ds) := fun B H vs e hv Q q => by
  cases hv with
  | cons h1 h2 =>
    cases h2
    cases h1 with
    | lst h q1 => exact ⟨_, _, rfl, .inl (.inl (.inl (e _ _ h))), fun p hp => q _ _ _ (Le.new e hp) (.lst upd_same (q1.mono (Le.new (M := []) e hp).b))⟩
end
end MA

set_option maxRecDepth 100000
set_option maxHeartbeats 2000000
namespace MA
open PySem PySem.Spec PyProof.Rows L2 HT

/-! ## t[::-1] of a tuple -/
section
variable {prog : Program} {w : World} {A : Around} {E : Value → Shared → Prop} {s : Shared}
theorem fm_congr {α β : Type} {f g : α → Option β} : ∀ {l : List α}, (∀ a ∈ l, f a = g a) → l.filterMap f = l.filterMap g
  | [], _ => rfl
  | a :: l, h => by
    rw [List.filterMap_cons, List.filterMap_cons, h a (List.mem_cons_self ..), fm_congr fun b hb => h b (List.mem_cons_of_mem _ hb)]
theorem back_picks (xs : Array Value) : ((List.range xs.size).filterMap fun (m : Nat) => xs[(((xs.size : Int) - 1) + (m : Int) * (-1)).toNat]?).toArray = xs.toList.reverse.toArray := by
  have h := PySem.W.krv_pick xs
  unfold slicePick at h
  rw [PySem.W.krv_bounds] at h
  rw [← h]
  show _ = ((sliceRange ((xs.size : Int) - 1) (-1) (-1)).filterMap (xs[·]?)).toArray
  rw [PySem.W.krv_sliceRange, List.filterMap_map]
  refine congrArg List.toArray (fm_congr fun m hm => ?_)
  have hlt := List.mem_range.mp hm
  show xs[_]? = xs[xs.size - 1 - m]?
  congr 1
  omega
theorem back_applied {sl : Addr} {t : Tok} {n : Nat} {Q : Int × Int × Nat → Shared → Prop} (hs : s.heap.IsSliceOf sl .none .none (.int (-1) t)) (h : Q ((n : Int) - 1, -1, n) s) :
    wpAny (model prog w) A (Builtin.Slice.sliceApplied (.ref sl) (pure (n : Int))) Q E s := by
  obtain ⟨os, h1, h2, h3⟩ := id hs
  unfold Builtin.Slice.sliceApplied Builtin.Slice.sliceFields
  refine wpAny_bind (wpAny_bind (wpAny_field h1 h3 (x := .none) rfl (wpAny_bind (wpAny_field h1 h3 (x := .none) rfl (wpAny_bind (wpAny_field h1 h3 (x := .int (-1) t) rfl (wpAny_pure ?_)))))))
  refine wpAny_bind (slicePart_int ?_)
  show wpAny _ _ (if ((-1 : Int) == 0) = true then _ else _) _ _ s
  rw [if_neg (by decide)]
  refine wpAny_bind (slicePart_none (wpAny_bind (slicePart_none (wpAny_bind (wpAny_pure ?_)))))
  show wpAny _ _ (match Builtin.Slice.sliceAdjust none none (-1) (n : Int) with | (lo, hi) => pure (lo, (-1 : Int), Builtin.Slice.slicePlaces lo hi (-1))) _ _ s
  have e1 : Builtin.Slice.sliceAdjust none none (-1) (n : Int) = ((n : Int) - 1, -1) := by simp [Builtin.Slice.sliceAdjust]
  rw [e1]
  show wpAny _ _ (pure ((n : Int) - 1, (-1 : Int), Builtin.Slice.slicePlaces ((n : Int) - 1) (-1) (-1))) _ _ s
  have e2 : Builtin.Slice.slicePlaces ((n : Int) - 1) (-1) (-1) = n := by
    unfold Builtin.Slice.slicePlaces
    rw [if_neg (by decide)]
    split
    · rw [show (- -1 : Int) = 1 by decide, Int.ediv_one]; omega
    · omega
  rw [e2]
  exact wpAny_pure h
theorem getItem_back {a sl : Addr} {items : Array Value} {t : Tok} {Q : Value → Shared → Prop} (ht : IsTup s.heap a items) (hs : s.heap.IsSliceOf sl .none .none (.int (-1) t))
    (h : Q (.ref s.heap.objs.size) { s with heap := s.heap.push { cls := .type "tuple", data := .seq items.toList.reverse.toArray } }) (hz : items.size ≤ sizeLine) : wpAny (model prog w) A (getItem (.ref a) (.ref sl)) Q E s := by
  have hfit : sizeOk (.seq items.toList.reverse.toArray) := by
    show items.toList.reverse.toArray.size ≤ sizeLine
    rw [List.size_toArray, List.length_reverse, Array.length_toList]
    exact hz
  have hty : s.TypeIs (.ref sl) "slice" := let ⟨os, h1, h2, _⟩ := hs; ⟨os, h1, h2⟩
  unfold getItem
  try with_reducible refine wpAny_holding ?_
  first | refine wpAny_bind (wpAny_pure ?_) | skip
  refine wpAny_bind (wpAny_sequenceKey ht.typeIs (by decide) ?_)
  refine wpAny_bind (wpAny_callSpecial?_slot (name := Str.ofString "__getitem__") ht.typeIs PyProof.Rows.slot_tuple_getitem
    (wpAny_call_entry PyProof.Rows.slot_tuple_getitem ht.typeIs entry_tuple_getitem ?_ (args_tuple_getitem _ _)))
  refine wpAny_bind (m := Builtin.Tuple.tupleItemsOf (.ref a)) (tupleItemsOf_ ht ?_)
  refine wpAny_bind (wpAny_typeOf hty ?_)
  rw [if_pos (by decide)]
  refine wpAny_bind (back_applied hs ?_)
  show wpAny _ _ (if (((items.size : Int) - 1) == 0 && (-1 : Int) == 1 && items.size == items.size) = true then _ else _) _ _ s
  have hno : ¬ (((items.size : Int) - 1) == 0 && (-1 : Int) == 1 && items.size == items.size) = true := by
    rw [show ((-1 : Int) == 1) = false by decide, Bool.and_false, Bool.false_and]
    exact Bool.false_ne_true
  rw [if_neg hno, back_picks]
  first
    | exact wpAny_bind (m := Builtin.Tuple.tupleExact _) (wpAny_newObj_type (wpAny_pure ⟨_, rfl, wpAny_pure h⟩) hfit)
    | exact wpAny_bind (m := Builtin.Tuple.tupleExact _) (wpAny_newObj_type (wpAny_bind (wpAny_pure (wpAny_pure ⟨_, rfl, wpAny_pure h⟩))) hfit)
    | exact wpAny_bind (wpAny_bind (m := Builtin.Tuple.tupleExact _) (wpAny_newObj_type (wpAny_pure (wpAny_pure ⟨_, rfl, wpAny_pure h⟩)) hfit))
    | exact wpAny_bind (wpAny_bind (m := Builtin.Tuple.tupleExact _) (wpAny_newObj_type (wpAny_pure ⟨_, rfl, wpAny_pure h⟩) hfit))
end
def tBack (K : PySem.W.Frag) (te : TE) : TE := fun σ H Q => te σ H fun x H1 => ∃ a xs, x = .ref a ∧ SqT K H1 a xs ∧ ∀ p, H1 p = none → Q (.ref p) (upd H1 p (.tup xs.reverse))
theorem pe_backT {X : Cx} {e : Expr} {te : TE} {k : Nat} {p1 p2 p3 pos : Pos} (he : PE X e te) : PE X (.Subscript e (.Slice none none (some (.UnaryOp .USub (.Constant (.int 1) k p1) p2)) p3) pos) (tBack X.K te) := by
  refine ⟨fun pins s σ H Q I h => ?_⟩
  refine Subscript_ (thn (he.run pins s σ H _ I h) fun v s1 ⟨x, H1, I1, r1, a, xs, ex, hx, q⟩ => ?_)
  subst ex
  cases r1
  have hst : PO X (some (.UnaryOp .USub (.Constant (.int 1) k p1) p2)) (tPart (tUn (rU fun i => .int (-i)) (tC (.int 1)))) := po_some (pe_un un_neg pe_int)
  refine wpAny_Slice (thn (po_none.run pins s1 σ H1 (fun o H2 => o = none ∧ H2 = H1) I1 ⟨rfl, rfl⟩) fun vl s2 ⟨l, H2, I2, pl, el, e2⟩ => ?_)
  subst el e2
  refine thn (po_none.run pins s2 σ H2 (fun o H3 => o = none ∧ H3 = H2) I2 ⟨rfl, rfl⟩) fun vu s3 ⟨u, H3, I3, pu, eu, e3⟩ => ?_
  subst eu e3
  refine thn (hst.run pins s3 σ H3 (fun o H4 => o = some (-1) ∧ H4 = H3) I3 ⟨1, rfl, -1, rfl, rfl, rfl⟩) fun vs s4 ⟨o, H4, I4, ps, eo, e4⟩ => ?_
  subst eo e4
  cases pl
  cases pu
  cases ps with
  | int _ t =>
    have I5 : Inv X pins σ H4 { s4 with heap := s4.heap.push { cls := .type "slice", data := .fields #[.none, .none, .int (-1) t] } } := I4.kept (t' := s4.toks) fun b ob q => Heap.get?_push_of_some _ q
    obtain ⟨its, r, ht, hz⟩ := I5.tuple hx
    have hlen := r.length
    show wpAny (model X.prog X.w) X.A (subscriptTail e (.Slice none none (some (.UnaryOp .USub (.Constant (.int 1) k p1) p2)) p3) (.ref a) (.ref s4.heap.objs.size)) (EP X pins σ Q) X.xe { s4 with heap := s4.heap.push { cls := .type "slice", data := .fields #[.none, .none, .int (-1) t] } }
    refine tail_any (ops := [.ref a, .ref s4.heap.objs.size]) ht.typeIs PyProof.Rows.slot_tuple_getitem.lookup ?_ (by with_unfolding_all rfl)
    refine getItem_back ht (Heap.IsSliceOf.new _ .none .none (.int (-1) t)) ?_ (by rw [List.size_toArray]; omega)
    refine ⟨.ref _, _, I5.laid (t' := s4.toks) (o := .tup xs.reverse) (fun b ob q => Heap.get?_push_of_some _ q) (Nat.le_refl _) ?_, rfl, q _ (I5.hok.fresh (Nat.le_refl _))⟩
    exact ⟨by rw [List.length_reverse]; exact hz, _, r.reverse, _, Heap.get?_push_size _ rfl, rfl, _, rfl⟩
theorem ev_back {K : PySem.W.Frag} {σ : L2.St} {B H : Hp} {te : TE} {ds : List PyData} (h : Ev K te σ B H (.tuple ds)) : Ev K (tBack K te) σ B H (.tuple ds.reverse) := fun B1 H1 l Q q =>
  h B1 H1 l _ fun v B2 H2 l2 hv => by
    cases hv with
    | tup h1 q1 => exact ⟨_, _, rfl, Evl.ex_t l2.h h1, fun p hp => q _ _ _ (l2.trans (Le.new l2.h hp)) (.tup (.inl (.inl upd_same)) (q1.reverse.mono (Le.new (M := []) l2.h hp).b))⟩
end MA

set_option maxRecDepth 100000
set_option maxHeartbeats 2000000
/-! enumerate(t) of a tuple -/
namespace PySem
open Sem (wp)
open AutoSeq1 (wpAny_loadPart')
theorem ma_drawsT {prog : Program} {w : World} {A : Around} (hh : A.handled = none) (it t : Addr) (hne : t ≠ it) (items : Array Value) :
    Draws prog w A it [it, t] items.size (fun i v => items[i]? = some v) (fun i h => h.IsTupleIter it t i ∧ h.IsTuple t items) where
  live := fun _ _ st => let ⟨⟨o, ho, _⟩, _⟩ := st; ⟨o, ho⟩
  frame := fun _ _ _ st hk => let ⟨x, ⟨o, ho, r⟩⟩ := st; ⟨x.at fun o e => hk it (by simp) o e, ⟨o, hk t (by simp) o ho, r⟩⟩
  item := fun i s Q E hi st hQ => RZ.nextOf_tuple_item st.1 st.2 (x := items[i]) (by simp [hi]) fun h' hit' hs' =>
    hQ _ h' s.toks (by simp [hi]) ⟨hit', let ⟨o, ho, r⟩ := st.2; ⟨o, (hs'.2 t hne).trans ho, r⟩⟩ hs'
  done := fun s Q E st hE => RZ.nextOf_tuple_end hh st.1 st.2 (by simp) hE
theorem ma_enumT (t : Addr) (items : Array Value) (n : Nat) (dct : Option Addr) (sl : Array (Option Value)) :
    Meets (Builtin.«enumerate.__new__» ⟨[.type "enumerate", .ref t], []⟩) (fun _ R s => s.heap.get? t = some { cls := .type "tuple", dict := dct, data := .seq items n, slots := sl } ∧
      R (.ok (.ret (.ref (Heap.push s.heap { cls := .type "tuple_iterator", data := .fields #[.ref t, .int 0 0] }).objs.size)))
        { s with heap := (s.heap.push { cls := .type "tuple_iterator", data := .fields #[.ref t, .int 0 0] }).push { cls := .type "enumerate", data := .fields #[.none, .bool false, .ref s.heap.objs.size, rawInt 0, .none, .none] } }) :=
  .of_wp fun prog w A R s h => by
    obtain ⟨hp, g, d, tk, os⟩ := s; obtain ⟨hl, h⟩ := h
    have hsub := sub_enumerate
    have hT : Heap.IsTuple (Shared.heap ⟨hp, g, d, tk, os⟩) t items := ⟨_, hl, rfl, n, rfl⟩
    wp_walk using wpAny_loadPart' hl
    refine wpAny_stack_any fun st => wpAny_pure ?_
    split
    · rename_i c _ _ _ _ _
      cases (c == Value.type "enumerate")
      · wp_walk using wpAny_loadPart' hl, wpAny_pyIter_tuple hT
        exact ⟨_, rfl, h⟩
      · wp_walk using wpAny_loadPart' hl, wpAny_pyIter_tuple hT
        exact ⟨_, rfl, h⟩
    · wp_walk using wpAny_loadPart' hl, wpAny_pyIter_tuple hT
      exact ⟨_, rfl, h⟩
theorem ma_call_enumT {prog : Program} {w : World} {A : Around} {E : Value → Shared → Prop} {s : Shared} {t : Addr} {items : Array Value} {Q : Value → Shared → Prop} (hT : s.heap.IsTuple t items)
    (h : ∀ h', IsEnum h' (s.heap.objs.size + 1) s.heap.objs.size 0 .none → h'.IsTupleIter s.heap.objs.size t 0 → (∀ b o, s.heap.get? b = some o → h'.get? b = some o) → Q (.ref (s.heap.objs.size + 1)) { s with heap := h' }) :
    wpAny (model prog w) A (call (.type "enumerate") [.ref t]) Q E s := by
  obtain ⟨⟨c, dct, dt, sl⟩, hl, hc, n, hd⟩ := hT
  cases (show c = .type "tuple" from hc)
  cases (show dt = .seq items n from hd)
  have hz : (s.heap.push { cls := .type "tuple_iterator", data := .fields #[.ref t, .int 0 0] }).objs.size = s.heap.objs.size + 1 := Heap.size_push ..
  refine callType_new F.called_enumerate (by decide) (F.typeCall_enumerate_1 _) (F.newCall_enumerate_1 _) (fun obj => F.args_object_init_2 obj _) F.entry_enumerate_new (ma_enumT t items n dct sl) ⟨hl, ?_⟩
  show _ ∧ _
  rw [hz]
  have he : IsEnum ((s.heap.push { cls := .type "tuple_iterator", data := .fields #[.ref t, .int 0 0] }).push { cls := .type "enumerate", data := .fields #[.none, .bool false, .ref s.heap.objs.size, rawInt 0, .none, .none] }) (s.heap.objs.size + 1) s.heap.objs.size 0 .none := by
    have z := Heap.get?_push_size (s.heap.push { cls := .type "tuple_iterator", data := .fields #[.ref t, .int 0 0] }) (o := { cls := .type "enumerate", data := .fields #[.none, .bool false, .ref s.heap.objs.size, rawInt 0, .none, .none] }) rfl
    rw [hz] at z
    exact z
  exact ⟨⟨_, he, rfl⟩, h _ he ⟨_, Heap.get?_push_of_some _ (Heap.get?_push_size _ rfl), rfl, rfl⟩ fun b o x => Heap.get?_push_of_some _ (Heap.get?_push_of_some _ x)⟩
end PySem
namespace MA
open PySem PySem.Spec PyProof.Rows L2
def ItE (K : PySem.W.Frag) (a : Addr) : It :=
  ⟨fun i H => ∃ (xs : List V) (x : V), SqT K H a xs ∧ xs[i]? = some x, fun i H v H' => ∃ T x, v = .ref T ∧ H T = none ∧ H' = upd H T (.tup [.int (i : Nat), x]) ∧ ∀ xs, SqT K H a xs → xs[i]? = some x, fun i H => ∃ xs : List V, SqT K H a xs ∧ xs.length ≤ i⟩
theorem turn_enumT {P : Program} {w : World} {K : PySem.W.Frag} {elts : List Expr} {kk : Nat} {tpos : Pos} (a e it : Addr) :
    Turn P w K (.Tuple elts kk tpos) (ItE K a) [e, it] e (fun i h => (∃ old, IsEnum h e it ((i : Nat) : Int) old) ∧ h.IsTupleIter it a i ∧ e ≠ it) where
  mem := by simp
  obj := fun i h st b hb => by
    obtain ⟨⟨old, he⟩, ⟨o, ho, hc, hd⟩, _⟩ := st
    rcases (show b = e ∨ b = it by simpa using hb) with z | z
    · rw [z]; exact ⟨_, he, fun v q => nomatch q⟩
    · rw [z]; exact ⟨o, ho, fun v q => by rw [hd] at q; cases q⟩
  keep := fun i h h' st k => let ⟨⟨old, he⟩, hi, hne⟩ := st; ⟨⟨old, k e (by simp) _ he⟩, hi.at fun o q => k it (by simp) o q, hne⟩
  item := by
    intro X hP hw hK hc i pins s σ H E I hf st hg
    subst hP hw hK
    obtain ⟨⟨old, he⟩, hit, hne⟩ := st
    obtain ⟨xs, x, hq, hx⟩ := hg
    obtain ⟨its, rv, p, hz⟩ := I.tuple hq
    obtain ⟨u, hu, ru⟩ := rv.get hx
    have hel : e < s.heap.objs.size := Heap.lt_size he
    have hil : it < s.heap.objs.size := by obtain ⟨_, q, _⟩ := hit; exact Heap.lt_size q
    have hae : a ≠ it := fun z => by
      obtain ⟨o, q, c, _⟩ := hit
      obtain ⟨o2, q2, c2, _⟩ := p
      rw [z, q] at q2; cases q2; rw [c] at c2; exact absurd (Value.type.inj c2) (by decide)
    have hae2 : a ≠ e := fun z => by
      obtain ⟨o2, q2, c2, _⟩ := p
      rw [z] at q2
      rw [show s.heap.get? e = some _ from he] at q2; cases q2; exact absurd (Value.type.inj c2) (by decide)
    have hlt : i < its.length := (List.getElem?_eq_some_iff.mp hu).1
    refine wpAny_pyNext_enum_itemD (ma_drawsT (A := X.A.in1) (I.ok.hd hc) it a hae its.toArray) he ⟨hit, p⟩ (by simpa using hlt) hne (by simp [hne, Ne.symm hae2]) fun y h' tk hy ho hst hT hsz hk => ?_
    have ey : u = y := by
      have hy' : its[i]? = some y := by simpa using hy
      rw [hu] at hy'
      exact Option.some.inj hy'
    subst ey
    refine ⟨_, rfl, wpAny_letOwnedTupleGo_enum (s := { s with heap := h', toks := tk + 1 }) ho fun h'' he' sb => ?_⟩
    have hT2 : h''.get? s.heap.objs.size = some { cls := .type "tuple", data := .seq #[.int i tk, u] } := (sb.2 _ (Nat.ne_of_gt hel)).trans hT
    have new : ObjOk X.prog X.w (upd H s.heap.objs.size (.tup [.int (i : Nat), x])) h'' s.heap.objs.size (.tup [.int (i : Nat), x]) :=
      ⟨by show 2 ≤ sizeLine; decide, [.int i tk, u], .cons ⟨_, rfl⟩ (.cons ru .nil), ⟨_, hT2, rfl, _, rfl⟩⟩
    have I1 : Inv X pins σ (upd H s.heap.objs.size (.tup [.int (i : Nat), x])) { s with heap := h'', toks := tk + 1 } :=
      I.turnedNew (ch := [e, it]) (fun b ob hb q => (sb.2 b (fun z => hb (by simp [z]))).trans (hk b ob (fun z => hb (by simp [z])) (fun z => hb (by simp [z])) q)) hf (Nat.le_refl _) new
    refine ⟨.ref s.heap.objs.size, _, I1, rfl, ⟨_, x, rfl, I.hok.fresh (Nat.le_refl _), rfl, fun ys hy => by rw [I.tuple_inj hy hq]; exact hx⟩, ⟨⟨u, ?_⟩, hst.1.at fun o q => (sb.2 it (Ne.symm hne)).trans q, hne⟩, fun b hb => ?_⟩
    · rw [show ((i + 1 : Nat) : Int) = (i : Int) + 1 by omega]
      exact he'
    · have hb' : b < s.heap.objs.size := by
        rcases (show b = e ∨ b = it by simpa using hb) with z | z
        · rw [z]; exact hel
        · rw [z]; exact hil
      rw [upd_ne (Nat.ne_of_lt hb')]
      exact (hf b hb).1
  done := by
    intro X hP hw hK hc i pins s σ H E I hf st hg
    subst hP hw hK
    obtain ⟨⟨old, he⟩, hit, hne⟩ := st
    obtain ⟨xs, hq, hx⟩ := hg
    obtain ⟨its, rv, p, hz⟩ := I.tuple hq
    obtain ⟨f0, f1, f2, f3, f4, f5⟩ := hf it (by simp)
    have hl := rv.length
    have hT : s.TypeIs (.ref e) "enumerate" := ⟨_, he, rfl⟩
    unfold pyNext
    refine wpAny_bind (wpAny_attempt (wpAny_callSpecial?_slot (name := Str.ofString "__next__") hT F.slot_enumerate_next (wpAny_call_entry F.slot_enumerate_next hT F.entry_enumerate_next ?_ (F.args_enumerate_next_1 _))))
    show wpAny _ _ (field (.ref e) 2 >>= _) _ _ _
    refine wpAny_bind (wpAny_field he rfl (x := .ref it) rfl ?_)
    refine wpAny_bind (RZ.nextOf_tuple_end (A := X.A.in1) (I.ok.hd hc) hit p (by simp; omega) fun h' x he' hx' => ?_)
    obtain ⟨o, ho, hc'⟩ := hx'
    refine wpAny_bind (wpAny_isInstance (T := "StopIteration") (b := true) ⟨o, ho, hc'⟩ isSubtype_stop ?_)
    exact wpAny_pure ⟨rfl, I.turned (t' := s.toks) (fun b o hb q => he' b o hb q) f0 f1 f3 f4 f5⟩
  self := fun A i s Q E st h => let ⟨⟨_, he⟩, _⟩ := st; wpAny_pyIter_enum he h
def iEnT (K : PySem.W.Frag) (ta : TA) : TI := fun σ H R => ta σ H fun vs H1 => ∃ a xs, vs = [.ref a] ∧ SqT K H1 a xs ∧ R (ItE K a) H1
theorem pi_enumT {X : Cx} {e : Expr} {ta : TA} {p pos tpos : Pos} {elts : List Expr} {kk : Nat} (hg : Gl X "enumerate") (hm : X.mg "enumerate" = none) (ha : PA X [e] ta) (hs : starEach [e] X.env = [(false, eval e X.env)] := by rfl) :
    PI X (.Tuple elts kk tpos) (.Call (.Name "enumerate" p) [e] [] pos) (iEnT X.K ta) := by
  refine ⟨fun pins s σ H R I h => ?_⟩
  refine Call_ (ld_blt I hg hm boot_enumerate (PyProof.Rows.callWith_type1 (thn (ha.run pos pins s σ H _ I h) fun us s1 ⟨vs, H1, I1, r1, a, xs, ex, hq, q⟩ => ?_) hs rfl))
  subst ex
  cases r1 with
  | cons r rr =>
    cases rr
    cases r
    obtain ⟨its, rv, p', hz⟩ := I1.tuple hq
    refine ma_call_enumT p' fun h' he hit hk => wpAny_pyIter_enum he ?_
    have I2 : Inv X pins σ H1 { s1 with heap := h' } := I1.kept (t' := s1.toks) hk
    refine ⟨s1.heap.objs.size + 1, [s1.heap.objs.size + 1, s1.heap.objs.size], _, _, H1, rfl, I2, turn_enumT a (s1.heap.objs.size + 1) s1.heap.objs.size, ⟨⟨.none, he⟩, hit, Nat.succ_ne_self _⟩, fun b hb => ?_, q⟩
    have hle : s1.heap.objs.size ≤ b := by
      rcases (show b = s1.heap.objs.size + 1 ∨ b = s1.heap.objs.size by simpa using hb) with z | z
      · rw [z]; exact Nat.le_add_right _ _
      · rw [z]; exact Nat.le_refl _
    exact I1.fpOk hle (I1.hok.fresh hle)
theorem walk_enT {K : PySem.W.Frag} {a : Addr} {xs : List V} : Walk (ItE K a) xs.length (fun H => SqT K H a xs) (YPair (fun i => some (.int (i : Nat))) (fun i => xs[i]?)) := by
  refine ⟨fun i _ hi q => ⟨xs, xs[i], q, by simp [hi]⟩, fun _ q => ⟨xs, q, Nat.le_refl _⟩, fun i H v H' _ q y => ?_⟩
  obtain ⟨T, x, h1, h2, h3, h4⟩ := y
  exact ⟨T, .int (i : Nat), x, h1, h2, h3, rfl, h4 xs q⟩
end MA

set_option maxRecDepth 100000
set_option maxHeartbeats 2000000
namespace MA
open PySem PySem.Spec PyProof.Rows L2

/-! ## {elt for t0 in i0 for t1 in i1}, elt an int -/
abbrev sc2 (elt t0 i0 t1 i1 : Expr) (scope : Scope) (pos : Pos) : Expr := .SetComp elt [⟨t0, i0, [], 0⟩, ⟨t1, i1, [], 0⟩] scope pos
theorem sc2_outer (elt t0 i0 t1 i1 : Expr) (scope : Scope) (pos : Pos) (it acc : Value) (env : Env) :
    compTurn (sc2 elt t0 i0 t1 i1 scope pos) 0 it acc env = (do
      standAt i0.pos
      match ← pyNext it with
      | none => pure (.done .next)
      | some v =>
        letOwnedTupleGo t0 it v
        assign t0 env v
        let x ← eval i1 env
        standAt i1.pos
        let x ← foldedSetIterable i1 env x
        let _ ← runOwn (.compStart (sc2 elt t0 i0 t1 i1 scope pos) 1 (← holding [x] (pyIter x)) acc env) env
        again (.compLoop (sc2 elt t0 i0 t1 i1 scope pos) 0 it acc env)) := by rfl
theorem sc2_inner (elt t0 i0 t1 i1 : Expr) (scope : Scope) (pos : Pos) (it acc : Value) (env : Env) :
    compTurn (sc2 elt t0 i0 t1 i1 scope pos) 1 it acc env = (do
      standAt i1.pos
      match ← pyNext it with
      | none => pure (.done .next)
      | some v =>
        letOwnedTupleGo t1 it v
        assign t1 env v
        (do let v ← eval elt env; standAt elt.pos; let _ ← call (.builtin "set.add") [acc, v])
        again (.compLoop (sc2 elt t0 i0 t1 i1 scope pos) 1 it acc env)) := by rfl
section
variable {prog : Program} {w : World} {A : Around} {R : Result → Shared → Prop} {s : Shared} {elt t0 i0 t1 i1 : Expr} {scope : Scope} {pos : Pos} {it acc : Value} {env : Env}
/-- the block's wish of an exception: none comes -/
abbrev Nox (prog : Program) (w : World) (A : Around) (env : Env) (R : Result → Shared → Prop) : Value → Shared → Prop := notedBy (model prog w) A env fun e t => R (.error e) t
theorem sc2_loop0 (hs : ∀ x, foldedSetIterable i1 env x = pure x) (I : Nat → Shared → Prop)
    (turn : ∀ n s, I n s → wpAny (model prog w) A (pyNext it) (fun r sa => match r with
      | none => R (.ok .next) sa
      | some v => wpAny (model prog w) A (letOwnedTupleGo t0 it v) (fun _ sb => wpAny (model prog w) A (assign t0 env v) (fun _ sc =>
          wpAny (model prog w) A (eval i1 env) (fun x sd => wpAny (model prog w) A (pyIter x) (fun it1 se =>
              codeAny (model prog w) A (.compStart (sc2 elt t0 i0 t1 i1 scope pos) 1 it1 acc env) (fun r t => match r with
                | .ok _ => ∃ m, m < n ∧ I m t
                | .error _ => False) se) (Nox prog w A env R) sd) (Nox prog w A env R) sc) (Nox prog w A env R) sb) (Nox prog w A env R) sa) (Nox prog w A env R) s)
    (n : Nat) (h : I n s) : codeAny (model prog w) A (.compLoop (sc2 elt t0 i0 t1 i1 scope pos) 0 it acc env) R s := by
  refine codeAny_loop rfl I (fun n s hI => ?_) n h
  show wpAny _ A ((compTurn (sc2 elt t0 i0 t1 i1 scope pos) 0 it acc env).onRaise (fun x => do noteFrame x env; theTreesLotGoes x)) _ _ s
  refine wpAny_noted ?_
  rw [sc2_outer]
  refine wpAny_bind (wpAny_standAt (wpAny_bind (wpAny_mono (turn n s hI) (fun r sa ha => ?_) fun _ _ z => z)))
  cases r with
  | none => exact wpAny_pure ha
  | some v =>
    refine wpAny_bind (wpAny_mono ha (fun _ sb hb => wpAny_bind (wpAny_mono hb (fun _ sc hc => ?_) fun _ _ z => z)) fun _ _ z => z)
    refine wpAny_bind (wpAny_mono hc (fun x sd hd => wpAny_bind (wpAny_standAt (wpAny_bind (wpAny_of_eq (hs x) (wpAny_bind (wpAny_holding (wpAny_mono hd (fun it1 se he => ?_) fun _ _ z => z))))))) fun _ _ z => z)
    refine wpAny_bind (wpAny_runOwn ?_)
    rw [Around.mark_none]
    refine codeAny_mono he fun r t hr => ?_
    cases r with
    | error e => exact hr.elim
    | ok f =>
      first
        | exact wpAny_pure ⟨rfl, hr⟩
        | exact wpAny_bind (wpAny_pure (wpAny_pure ⟨rfl, hr⟩))
theorem sc2_loop1 (I : Nat → Shared → Prop)
    (turn : ∀ n s, I n s → wpAny (model prog w) A (pyNext it) (fun r sa => match r with
      | none => R (.ok .next) sa
      | some v => wpAny (model prog w) A (letOwnedTupleGo t1 it v) (fun _ sb => wpAny (model prog w) A (assign t1 env v) (fun _ sc =>
          wpAny (model prog w) A (eval elt env) (fun x sd => wpAny (model prog w) A (call (.builtin "set.add") [acc, x]) (fun _ se => ∃ m, m < n ∧ I m se) (Nox prog w A env R) sd) (Nox prog w A env R) sc) (Nox prog w A env R) sb) (Nox prog w A env R) sa) (Nox prog w A env R) s)
    (n : Nat) (h : I n s) : codeAny (model prog w) A (.compLoop (sc2 elt t0 i0 t1 i1 scope pos) 1 it acc env) R s := by
  refine codeAny_loop rfl I (fun n s hI => ?_) n h
  show wpAny _ A ((compTurn (sc2 elt t0 i0 t1 i1 scope pos) 1 it acc env).onRaise (fun x => do noteFrame x env; theTreesLotGoes x)) _ _ s
  refine wpAny_noted ?_
  rw [sc2_inner]
  refine wpAny_bind (wpAny_standAt (wpAny_bind (wpAny_mono (turn n s hI) (fun r sa ha => ?_) fun _ _ z => z)))
  cases r with
  | none => exact wpAny_pure ha
  | some v =>
    refine wpAny_bind (wpAny_mono ha (fun _ sb hb => wpAny_bind (wpAny_mono hb (fun _ sc hc => ?_) fun _ _ z => z)) fun _ _ z => z)
    exact wpAny_bind (wpAny_bind (wpAny_mono hc (fun x sd hd => wpAny_bind (wpAny_standAt (wpAny_bind (wpAny_mono hd (fun _ se he => wpAny_pure (wpAny_pure ⟨rfl, he⟩)) fun _ _ z => z)))) fun _ _ z => z))
theorem sc2_start1 (h0 : codeAny (model prog w) A (.compLoop (sc2 elt t0 i0 t1 i1 scope pos) 1 it acc env) R s)
    (h : wpAny (model prog w) A (pyIter it) (fun it2 t => codeAny (model prog w) A (.compLoop (sc2 elt t0 i0 t1 i1 scope pos) 1 it2 acc env) R t) (Nox prog w A env R) s) :
    codeAny (model prog w) A (.compStart (sc2 elt t0 i0 t1 i1 scope pos) 1 it acc env) R s := by
  refine codeAny_of_tree ?_
  show wpAny _ _ ((compStart (sc2 elt t0 i0 t1 i1 scope pos) 1 it acc env).onRaise (fun x => do noteFrame x env; standAt theWindowsPlace)) _ _ s
  refine wpAny_notedAt ?_
  unfold compStart
  show wpAny _ _ (ask >>= _) _ _ s
  refine wpAny_bind (wpAny_askSetting (wpAny_ite ?_))
  split
  · first
      | exact wpAny_bind (wpAny_pure (wpAny_pure (And.intro rfl h0)))
      | exact wpAny_pure (And.intro rfl h0)
  · first
      | exact wpAny_bind (wpAny_rule (wpAny_bind (wpAny_standAt (wpAny_bind (wpAny_mono h (fun it2 t z => wpAny_pure (And.intro rfl z)) fun _ _ x => x)))))
      | (refine wpAny_bind (wpAny_rule ?_); show wpAny _ _ (standAt i1.pos >>= _) _ _ s; exact wpAny_bind (wpAny_standAt (wpAny_bind (wpAny_mono h (fun it2 t z => wpAny_pure (And.intro rfl z)) fun _ _ x => x))))
end
section
variable {X : Cx}
theorem addI_ok {pins : List (Addr × Obj)} {σ : L2.St} {H : Hp} {s : Shared} {E : Value → Shared → Prop} {D : Addr} {S : Int → Bool} {n : Nat} {k : Int} {tk : Tok} {Q : Value → Shared → Prop} (I : Inv X pins σ H s) (hD : H D = some (SetO X.w D S n)) (room : n + 1 < scanBound)
    (h : ∀ t, Inv X pins σ (upd H D (SetO X.w D (fun j => S j || decide (j = k)) (if S k = true then n else n + 1))) t → Q .none t) : wpAny (model X.prog X.w) X.A (call (.builtin "set.add") [.ref D, .int k tk]) Q E s := by
  refine setR_add (setO_get I hD) room fun h2 sb new => ?_
  have there : ∃ u, h2.get? D = some u := let ⟨o, _, _, _, ho, _⟩ := new; ⟨o, ho⟩
  exact h _ (I.write (e := D) (t' := s.toks + 1) (by rw [hD]; trivial) (.inl rfl) (fun b u hb hu => (sb.2 b hb).trans hu) there (setO_new new))
/-- the reading: a set at D that grows -/
def tSc2 (w : World) (wi : TI) (g : TG) (wi1 : TI) (g1 : TG) (te : TE) (vs vs1 : List Nat) : TE := fun σ H Q => wi σ H fun J H1 => ∀ D, H1 D = none → ∃ W : Nat → Nat → Hp → Prop, (∃ m, W 0 m (upd H1 D (SetO w D (fun _ => false) 0))) ∧ ∀ i m H, W i m H →
  (J.stop i H ∧ Q (.ref D) H) ∨ (J.go i H ∧ ∃ Nx : Hp → Prop, (∀ Hn, Nx Hn → ∃ mn, mn < m ∧ W (i + 1) mn Hn) ∧ ∀ x Hy, J.yld i H x Hy → g x (wipe σ vs) Hy fun σ2 H2 => wipe σ2 vs = wipe σ vs ∧
    wi1 σ2 H2 fun J1 H4 => ∃ W1 : Nat → Nat → Hp → Prop, (∃ m, W1 0 m H4) ∧ ∀ j k H, W1 j k H →
      (J1.stop j H ∧ Nx H) ∨ (J1.go j H ∧ ∃ Ny : Hp → Prop, (∀ Hn, Ny Hn → ∃ kn, kn < k ∧ W1 (j + 1) kn Hn) ∧ ∀ x Hy, J1.yld j H x Hy → g1 x (wipe σ2 vs1) Hy fun σ3 H5 => wipe σ3 vs1 = wipe σ2 vs1 ∧
        te σ3 H5 fun y H7 => ∃ (z : Int) (S : Int → Bool) (n : Nat), y = .int z ∧ H7 D = some (SetO w D S n) ∧ n + 1 < scanBound ∧ Ny (upd H7 D (SetO w D (fun j => S j || decide (j = z)) (if S z = true then n else n + 1)))))
theorem pe_sc2 {elt t0 i0 t1 i1 : Expr} {scope : Scope} {own : List (PySem.Str × Nat)} {vs1 : List Nat} {pos : Pos} {wi wi1 : TI} {g g1 : TG} {te : TE} (hc : X.calm = true) (hN : X.N.Nodup) (hi : PI X t0 i0 wi) (ok : BlkOk X.N X.env.scope scope own) (hv : ∀ i ∈ vs1, i ∈ own.map (·.2))
    (hg : ∀ (s : Shared) (H : Hp) (C : Addr) (cl : List (PySem.Str × Addr)) (fp : List Addr), PG (X.blk s H scope (compEnvC scope cl C X.env) fp) t0 g)
    (hi1 : ∀ (s : Shared) (H : Hp) (C : Addr) (cl : List (PySem.Str × Addr)) (fp : List Addr), PI (X.blk s H scope (compEnvC scope cl C X.env) fp) t1 i1 wi1)
    (hg1 : ∀ (s : Shared) (H : Hp) (C : Addr) (cl : List (PySem.Str × Addr)) (fp : List Addr), PG (X.blk s H scope (compEnvC scope cl C X.env) fp) t1 g1)
    (he : ∀ (s : Shared) (H : Hp) (C : Addr) (cl : List (PySem.Str × Addr)) (fp : List Addr), PE (X.blk s H scope (compEnvC scope cl C X.env) fp) elt te)
    (hs : ∀ x, foldedSetIterable i0 X.env x = pure x := by intro _; rfl) (hs1 : ∀ env x, foldedSetIterable i1 env x = pure x := by intro _ _; rfl) :
    PE X (.SetComp elt [⟨t0, i0, [], 0⟩, ⟨t1, i1, [], 0⟩] scope pos) (tSc2 X.w wi g wi1 g1 te (own.map (·.2)) vs1) := by
  refine ⟨fun pins s σ H Q I h => ?_⟩
  show wpAny _ _ (comprehension (sc2 elt t0 i0 t1 i1 scope pos) scope X.env (firstIterPos [⟨t0, i0, [], 0⟩, ⟨t1, i1, [], 0⟩] pos) (newSet (.type "set")) false (eval i0 X.env) none) _ _ s
  have hfree : ∀ y ∈ scope.names, y.2 = .free → ∃ c, X.env.cells.lookup y.1 = some c := fun y hy e => (ok.free y hy e).elim (fun k => I.ok.has _ (.inl k)) fun k => I.ok.has _ (.inr k)
  refine wpAny_comprehension_free (use := none) rfl hs (closure_ok hfree) ok.kind (fun y hy e => by rw [ok.uniq y hy, e]) (thn (hi.run pins s σ H _ I h) fun xv sa hx => thn hx fun itv sb h2 => ?_)
  obtain ⟨it, fp, tn, J, H2, e, I2, T, st2, f2, q⟩ := h2
  subst e
  refine PpSet.newSet_ok (newEnv_comp ?_)
  generalize hD : sb.heap.objs.size = D
  have hDn : H2 D = none := I2.hok.fresh (Nat.le_of_eq hD)
  obtain ⟨W, ⟨m0, w0⟩, turn⟩ := q D hDn
  generalize h3 : ({ sb with heap := sb.heap.push { cls := .type "set", dict := none, data := .set #[] 0 (.fresh 0 0 (!X.w.params.followText "set-order")) } } : Shared) = sc
  generalize hH3 : upd H2 D (SetO X.w D (fun _ => false) 0) = H3 at w0
  have hp3 : sc.heap = sb.heap.push { cls := .type "set", dict := none, data := .set #[] 0 (.fresh 0 0 (!X.w.params.followText "set-order")) } := by rw [← h3]
  have I3 : Inv X pins σ H3 sc := by
    rw [← h3, ← hH3]
    refine I2.laid (t' := sb.toks) (fun b o e => Heap.get?_push_of_some _ e) (Nat.le_of_eq hD) ?_
    rw [← hD]
    exact setO_new (setR_fresh X.w)
  have f3 : ∀ b ∈ fp, FpOk X pins H3 b ∧ b < sc.heap.objs.size := fun b hb => by
    obtain ⟨o, e, _⟩ := T.obj _ _ st2 b hb
    have hlt : b < sb.heap.objs.size := Heap.lt_size e
    refine ⟨⟨?_, (f2 b hb).2⟩, by rw [hp3, Heap.size_push]; exact Nat.lt_succ_of_lt hlt⟩
    rw [← hH3, upd_ne (by rw [← hD]; exact Nat.ne_of_lt hlt)]
    exact (f2 b hb).1
  have I4 := block_start I3 ok hN f3
  have pg := hg sc H3 sc.heap.objs.size (cellsFrom (sc.heap.objs.size + 1) scope.names (cloFrom X.env.cells scope.names [])) fp
  have pe := he sc H3 sc.heap.objs.size (cellsFrom (sc.heap.objs.size + 1) scope.names (cloFrom X.env.cells scope.names [])) fp
  have pi1 := hi1 sc H3 sc.heap.objs.size (cellsFrom (sc.heap.objs.size + 1) scope.names (cloFrom X.env.cells scope.names [])) fp
  have pg1 := hg1 sc H3 sc.heap.objs.size (cellsFrom (sc.heap.objs.size + 1) scope.names (cloFrom X.env.cells scope.names [])) fp
  show codeAny _ _ (.compStart (sc2 elt t0 i0 t1 i1 scope pos) 0 (.ref it) (.ref D) (compEnvC scope (cellsFrom (sc.heap.objs.size + 1) scope.names (cloFrom X.env.cells scope.names [])) sc.heap.objs.size X.env)) (compPost (model X.prog X.w) X.A X.xe none (EP X pins σ Q) (.ref D) sc.heap.objs.size) { sc with heap := pushCells (sc.heap.push { cls := .type "dict", data := .dict #[] }) scope.names }
  generalize hce : compEnvC scope (cellsFrom (sc.heap.objs.size + 1) scope.names (cloFrom X.env.cells scope.names [])) sc.heap.objs.size X.env = ce at I4 pg pe pi1 pg1 ⊢
  have cL : ce.locals = sc.heap.objs.size := by subst hce; rfl
  generalize h4 : ({ sc with heap := pushCells (sc.heap.push { cls := .type "dict", data := .dict #[] }) scope.names } : Shared) = sd at I4 ⊢
  have st4 : tn 0 sd.heap := T.keep _ _ _ st2 fun b _ o e => by
    rw [← h4]
    exact pushCells_keeps _ _ _ _ (Heap.get?_push_of_some _ (by rw [hp3]; exact Heap.get?_push_of_some _ e))
  generalize hY : X.blk sc H3 scope ce fp = Y at I4 pg pe pi1 pg1
  have yex : Y.ex = fp := by rw [← hY]
  have stat : ∀ {σa : L2.St} {Ha : Hp} {t : Shared} {ps : List (Addr × Obj)}, Inv Y ps σa Ha t → (∀ b ∈ fp, Ha b = none) → ∀ b ∈ fp, FpOk Y [] Ha b := fun {σa Ha t ps} Ia hn b hb => by
    have hb' : b ∈ Y.ex := by rw [yex]; exact hb
    exact ⟨hn b hb, (Ia.ok.exf b hb').1, Ia.ok.exfs b hb', .inl hb', fun x c e => (Ia.ok.exf b hb').2 x c e, fun p hp => by rw [← hY] at hp; cases hp⟩
  have yP : Y.prog = X.prog := by rw [← hY]
  have yw : Y.w = X.w := by rw [← hY]
  have yK : Y.K = X.K := by rw [← hY]
  have yA : Y.A = X.A := by rw [← hY]
  have yc : Y.calm = true := by rw [← hY]; exact hc
  have yx : Y.xe = fun _ _ => False := by rw [← hY]
  have main : ∀ (R : Result → Shared → Prop), (∀ t Ha, Inv Y [] (wipe σ (own.map (·.2))) Ha t → Q (.ref D) Ha → R (.ok .next) t) →
      codeAny (model X.prog X.w) X.A (.compLoop (sc2 elt t0 i0 t1 i1 scope pos) 0 (.ref it) (.ref D) ce) R sd := by
    intro R hend
    subst hY
    refine sc2_loop0 (hs1 ce) (fun n t => ∃ i Ha, Inv (X.blk sc H3 scope ce fp) [] (wipe σ (own.map (·.2))) Ha t ∧ tn i t.heap ∧ (∀ b ∈ fp, Ha b = none) ∧ W i n Ha) ?_ m0 ⟨0, H3, I4, st4, fun b hb => (f3 b hb).1.1, w0⟩
    rintro n ta ⟨i, H5, I5, st5, n5, w5⟩
    rcases turn i n H5 w5 with ⟨stop, qq⟩ | ⟨go, Nx, hNx, step⟩
    · refine thnF (T.done (X.blk sc H3 scope ce fp) rfl rfl rfl hc i [] ta _ H5 (fun _ _ => False) I5 (stat I5 n5) st5 stop) fun r tb ⟨hr, I6⟩ => ?_
      subst hr
      exact hend tb H5 I6 qq
    refine thnF (T.item (X.blk sc H3 scope ce fp) rfl rfl rfl hc i [] ta _ H5 (fun _ _ => False) I5 (stat I5 n5) st5 go) fun r tb ⟨u, hr, h6⟩ => ?_
    subst hr
    refine thnF h6 fun _ tc ⟨x, H7, I7, r7, y7, st7, n7⟩ => ?_
    refine thnF (pg.run _ tc _ H7 x u _ (I7.pinned (stat I7 n7) (T.obj _ _ st7)) r7 (step x H7 y7)) fun _ td ⟨σ8, H8, I8, hw8, q8⟩ => ?_
    -- back to the outer loop
    have fin : ∀ {σ9 : L2.St} {t : Shared} {Ha : Hp}, Inv (X.blk sc H3 scope ce fp) ([] ++ pinsAt fp tc.heap) σ9 Ha t → (wipe σ (own.map (·.2))).length = σ9.length → (∀ (j : Nat) v, (wipe σ (own.map (·.2)))[j]? = some (some v) → σ9[j]? = some (some v)) → Nx Ha →
        ∃ m, m < n ∧ ∃ i Ha, Inv (X.blk sc H3 scope ce fp) [] (wipe σ (own.map (·.2))) Ha t ∧ tn i t.heap ∧ (∀ b ∈ fp, Ha b = none) ∧ W i m Ha := fun {σ9 t Ha} Ia hl hk nx => by
      obtain ⟨mn, hm, wn⟩ := hNx Ha nx
      have pin : ∀ b ∈ fp, ∀ o, tc.heap.get? b = some o → t.heap.get? b = some o ∧ Ha b = none := fun b hb o e => by
        have z := Ia.pin (b, o) (List.mem_append_right _ (List.mem_append_right _ (mem_pinsAt hb e)))
        exact ⟨z.1, z.2.1⟩
      refine ⟨mn, hm, i + 1, Ha, (Ia.unpinned (pins := [])).weak hl hk, T.keep _ _ _ st7 fun b hb o e => (pin b hb o e).1, fun b hb => ?_, wn⟩
      obtain ⟨o, e, _⟩ := T.obj _ _ st7 b hb
      exact (pin b hb o e).2
    have hl8 : (wipe σ (own.map (·.2))).length = σ8.length := by rw [← hw8, wipe_length]
    have hk9 : ∀ (j : Nat) v, (wipe σ (own.map (·.2)))[j]? = some (some v) → (wipe σ8 vs1)[j]? = some (some v) := fun j v e => by
      rw [← hw8] at e
      obtain ⟨e1, e2⟩ := wipe_some e
      rw [wipe_out fun z => e2 (hv j z)]
      exact e1
    refine thnF (pi1.run _ td σ8 H8 _ I8 q8) fun xv te' hx => thnF hx fun itv tf h11 => ?_
    obtain ⟨it1, fp1, tn1, J1, H11, e1, I11, T1, st11, f11, W1, ⟨m1, w1⟩, turn1⟩ := h11
    subst e1
    have stat1 : ∀ {Ha : Hp}, (∀ b ∈ fp1, Ha b = none) → ∀ b ∈ fp1, FpOk (X.blk sc H3 scope ce fp) ([] ++ pinsAt fp tc.heap) Ha b := fun hn b hb => ⟨hn b hb, (f11 b hb).2⟩
    have inner : codeAny (model X.prog X.w) X.A (.compLoop (sc2 elt t0 i0 t1 i1 scope pos) 1 (.ref it1) (.ref D) ce)
        (fun r t => match r with
          | .ok _ => ∃ m, m < n ∧ ∃ i Ha, Inv (X.blk sc H3 scope ce fp) [] (wipe σ (own.map (·.2))) Ha t ∧ tn i t.heap ∧ (∀ b ∈ fp, Ha b = none) ∧ W i m Ha
          | .error _ => False) tf := by
      refine sc2_loop1 (fun k t => ∃ j Ha, Inv (X.blk sc H3 scope ce fp) ([] ++ pinsAt fp tc.heap) (wipe σ8 vs1) Ha t ∧ tn1 j t.heap ∧ (∀ b ∈ fp1, Ha b = none) ∧ W1 j k Ha) ?_ m1 ⟨0, H11, I11.weak (wipe_length _ _) (fun j v e => (wipe_some e).1), st11, fun b hb => (f11 b hb).1, w1⟩
      rintro k tg ⟨j, H12, I12, st12, n12, w12⟩
      rcases turn1 j k H12 w12 with ⟨stop1, nx1⟩ | ⟨go1, Ny, hNy, step1⟩
      · refine thnF (T1.done (X.blk sc H3 scope ce fp) rfl rfl rfl hc j _ tg (wipe σ8 vs1) H12 (fun _ _ => False) I12 (stat1 n12) st12 stop1) fun r th ⟨hr, I13⟩ => ?_
        subst hr
        exact fin I13 (hl8.trans (wipe_length σ8 vs1).symm) hk9 nx1
      refine thnF (T1.item (X.blk sc H3 scope ce fp) rfl rfl rfl hc j _ tg (wipe σ8 vs1) H12 (fun _ _ => False) I12 (stat1 n12) st12 go1) fun r th ⟨u1, hr, h13⟩ => ?_
      subst hr
      refine thnF h13 fun _ ti ⟨x1, H14, I14, r14, y14, st14, n14⟩ => ?_
      refine thnF (pg1.run _ ti (wipe σ8 vs1) H14 x1 u1 _ (I14.pinned (stat1 n14) (T1.obj _ _ st14)) r14 (step1 x1 H14 y14)) fun _ tj ⟨σ15, H15, I15, hw15, q15⟩ => ?_
      refine thnF (pe.run _ tj σ15 H15 _ I15 q15) fun z tk ⟨yv, H17, I17, r17, zi, S0, n0, ey, hD17, hz17, nx⟩ => ?_
      subst ey
      obtain ⟨ztok, rfl⟩ := (show ∃ t, z = Value.int zi t from r17)
      refine addI_ok (X := X.blk sc H3 scope ce fp) I17 hD17 hz17 fun tl I18 => ?_
      obtain ⟨kn, hk, wn⟩ := hNy _ nx
      have pin : ∀ b ∈ fp1, ∀ o, ti.heap.get? b = some o → tl.heap.get? b = some o ∧ (upd H17 D (SetO X.w D (fun j => S0 j || decide (j = zi)) (if S0 zi = true then n0 else n0 + 1))) b = none := fun b hb o e => by
        have z := I18.pin (b, o) (List.mem_append_right _ (List.mem_append_right _ (mem_pinsAt hb e)))
        exact ⟨z.1, z.2.1⟩
      refine ⟨kn, hk, j + 1, _, I18.unpinned.weak (by rw [← hw15, wipe_length]) (fun j v e => by rw [← hw15] at e; exact (wipe_some e).1), T1.keep _ _ _ st14 fun b hb o e => (pin b hb o e).1, fun b hb => ?_, wn⟩
      obtain ⟨o, e, _⟩ := T1.obj _ _ st14 b hb
      exact (pin b hb o e).2
    exact sc2_start1 inner (T1.self X.A 0 _ _ _ st11 inner)
  have loop := main (compPost (model X.prog X.w) X.A X.xe none (EP X pins σ Q) (.ref D) sc.heap.objs.size) fun t Ha Ia qq => by
    subst hY
    have I7 : Inv X pins σ Ha t := I3.call' (ch := fp) Ia.os Ia.base Ia.hok Ia.bare fun b hb => ⟨(f3 b hb).1.2.2.2.1, (f3 b hb).1.2.1, (f3 b hb).1.2.2.2.2.1, (f3 b hb).1.2.2.2.2.2⟩
    have nC : Ha sc.heap.objs.size = none := by
      have z : Ha ce.locals = none := Ia.free
      rw [cL] at z
      exact z
    obtain ⟨mm, hn, _⟩ := Ia.loc
    have hn : t.heap.Ns ce.locals mm := hn
    rw [cL] at hn
    refine ⟨mm, hn, fun h'' sb' => ?_⟩
    obtain ⟨f0, f1, f2, f4, f5, f6⟩ := I3.fpOk (Nat.le_refl _) nC
    exact ⟨.ref D, Ha, I7.turned (t' := t.toks) (fun b o hb e => (sb'.2 b hb).trans e) f0 f1 f4 f5 f6, rfl, qq⟩
  exact PpSet.codeAny_compStart_set loop (T.self X.A 0 _ _ _ st4 loop)
end
end MA

set_option maxRecDepth 100000
set_option maxHeartbeats 2000000
namespace MA
open PySem PySem.Spec PyProof.Rows L2

/-! ## how many different ones -/
def dcount : List Int → Nat
  | [] => 0
  | x :: r => if x ∈ r then dcount r else dcount r + 1
theorem dcount_le : ∀ ns : List Int, dcount ns ≤ ns.length
  | [] => Nat.le_refl _
  | x :: r => by
    have := dcount_le r
    unfold dcount
    split
    · rw [List.length_cons]; omega
    · rw [List.length_cons]; omega
theorem dcount_eq : ∀ ns : List Int, dcount ns = ns.length ↔ ns.Nodup
  | [] => by simp [dcount]
  | x :: r => by
    have ih := dcount_eq r
    have hle := dcount_le r
    unfold dcount
    rw [List.nodup_cons, List.length_cons]
    split
    · rename_i h
      constructor
      · intro e; omega
      · intro e; exact absurd h e.1
    · rename_i h
      constructor
      · intro e; exact ⟨h, ih.mp (by omega)⟩
      · intro e; rw [ih.mpr e.2]
theorem nodup_count : ∀ (ns l : List Int), l.Nodup → (∀ k, k ∈ l ↔ k ∈ ns) → l.length = dcount ns
  | [], l, _, hm => by
    cases l with
    | nil => rfl
    | cons a l => exact absurd ((hm a).mp (List.mem_cons_self ..)) (by simp)
  | x :: r, l, hn, hm => by
    unfold dcount
    split
    · rename_i h
      refine nodup_count r l hn fun k => ?_
      rw [hm k, List.mem_cons]
      exact ⟨fun z => z.elim (fun e => e ▸ h) id, .inr⟩
    · rename_i h
      have hx : x ∈ l := (hm x).mpr (List.mem_cons_self ..)
      have h1 := nodup_count r (l.erase x) (hn.erase x) fun k => by
        rw [hn.mem_erase_iff, hm k, List.mem_cons]
        constructor
        · rintro ⟨a, b⟩; exact b.resolve_left a
        · intro b; exact ⟨fun e => h (e ▸ b), .inr b⟩
      have h2 : (l.erase x).length = l.length - 1 := List.length_erase_of_mem hx
      have h3 : 0 < l.length := List.length_pos_of_mem hx
      omega
section
variable {X : Cx}
/-- len(set(t)), t a tuple of ints -/
def tLenSetT (K : PySem.W.Frag) (ta : TE) : TE := fun σ H Q => ta σ H fun x H1 => ∃ (l : Addr) (ns : List Int), x = V.ref l ∧ SqT K H1 l (ns.map V.int) ∧ ns.length ≤ 1000 ∧ Q (.int (dcount ns)) H1
theorem pe_lenSetT {a : Expr} {ta : TE} {p p2 q pos : Pos} (hc : X.calm = true) (hg : Gl X "len") (hm : X.mg "len" = none) (hg2 : Gl X "set") (hm2 : X.mg "set" = none) (ha : PE X a ta)
    (na : starEach [a] X.env = (false, eval a X.env) :: starEach [] X.env := by rfl) : PE X (.Call (.Name "len" p) [.Call (.Name "set" p2) [a] [] q] [] pos) (tLenSetT X.K ta) := by
  refine ⟨fun pins s σ H Q I h => ?_⟩
  refine Call_ (ld_blt I hg hm PySem.boot_len ?_)
  refine PyProof.Rows.callWith_builtin1 (PyProof.Rows.args_cons ?_ rfl) rfl rfl
  refine Call_ (ld_blt I hg2 hm2 PyProof.Rows.boot_set ?_)
  refine PyProof.Rows.callWith_type1 (PyProof.Rows.args_cons (thn (ha.run pins s σ H _ I h) fun v s1 ⟨x, H1, I1, r1, l, ns, ex, hq, h1, q1⟩ => PyProof.Rows.args_nil ?_) na) na rfl
  subst ex
  cases r1
  obtain ⟨its, r, pl, hz⟩ := I1.tuple hq
  refine call_set_tupI ns (I1.ok.hd hc) pl (by simpa using intsAre_of r) (by unfold scanBound; omega) fun h2 tk c R hcl hk => ?_
  obtain ⟨o, es, ep, t, ho, hex, hd, _, hnd, hmem, hb, hf, hn, _⟩ := R
  refine PyProof.Rows.args_nil ?_
  have e : es.size = dcount ns := by
    have := nodup_count ns (es.toList.map keyOf) hnd fun k => by
      rw [← hmem k]
      simp
    rw [List.length_map, Array.length_toList] at this
    exact this
  have I2 : Inv X pins σ H1 { s1 with heap := h2, toks := tk } := I1.kept fun b o e => hk b o e
  refine call_len_set ho hex hd hf (by rw [hn]; omega) ⟨.int (dcount ns), H1, I2.tok _, ⟨_, by rw [e]⟩, q1⟩
theorem ev_lenSet {K : PySem.W.Frag} {σ : L2.St} {B H : Hp} {te : TE} {ns : List Int} (h : Ev K te σ B H (.tuple (ns.map PyData.int))) (hz : ns.length ≤ 1000) : Ev K (tLenSetT K te) σ B H (.int (dcount ns)) := fun B1 H1 l Q q =>
  h B1 H1 l _ fun v B2 H2 l2 hv => by
    cases hv with
    | tup h1 q1 =>
      cases ofInts q1
      exact ⟨_, ns, rfl, Evl.ex_t l2.h h1, hz, q _ B2 H2 l2 (.int _)⟩
end
/-! ## comprehensions over plain data -/
section
variable {K : PySem.W.Frag} {σ : L2.St} {B H : Hp} {tl te : TE} {tt : TT}
def slotsD (K : PySem.W.Frag) (B : Hp) (σ : L2.St) (i : Nat) (d : PyData) : Prop := ∃ v, σ[i]? = some (some v) ∧ Dq K B v d
/-- what a comprehension's list holds after some items -/
def picked (f : Nat → Bool) (g : Nat → PyData) (n : Nat) : List PyData := ((List.range n).filter f).map g
theorem picked_yes {f : Nat → Bool} {g : Nat → PyData} {n : Nat} (h : f n = true) : picked f g (n + 1) = picked f g n ++ [g n] := by
  unfold picked
  rw [List.range_succ, List.filter_append, List.map_append, List.filter_cons, if_pos h]
  rfl
theorem picked_no {f : Nat → Bool} {g : Nat → PyData} {n : Nat} (h : f n = false) : picked f g (n + 1) = picked f g n := by
  unfold picked
  rw [List.range_succ, List.filter_append, List.map_append, List.filter_cons, if_neg (by rw [h]; decide)]
  exact List.append_nil _
theorem picked_len (f : Nat → Bool) (g : Nat → PyData) (n : Nat) : (picked f g n).length ≤ n := by
  unfold picked
  rw [List.length_map]
  have h := List.length_filter_le f (List.range n)
  rwa [List.length_range] at h
/-- the word of a pure comprehension: D the list that grows -/
structure Lw (K : PySem.W.Frag) (B H : Hp) (D : Addr) (f : Nat → Bool) (g : Nat → PyData) (i : Nat) (Hi : Hp) : Prop where
  ex : ∃ Bi acc, Le [] B H Bi Hi ∧ Bi D = none ∧ Hi D = some (.lst acc) ∧ DqAll K Bi acc (picked f g i)
theorem Lw.turn {D : Addr} {f : Nat → Bool} {g : Nat → PyData} {i : Nat} {Hi : Hp} {σ2 : L2.St} (hD : H D = none) (hw : Lw K B H D f g i Hi) (hi : i < 100000)
    (ht : ∀ Bi, Le [] B H Bi Hi → EvT tt σ2 Bi Hi (f i)) (he : ∀ Bi Hj, Le [] B H Bi Hj → f i = true → Ev K te σ2 Bi Hj (g i)) :
    tt σ2 Hi fun b H3 => if b = true then te σ2 H3 fun y H4 => ∃ acc, H4 D = some (.lst acc) ∧ acc.length < sizeLine ∧ Lw K B H D f g (i + 1) (upd H4 D (.lst (acc ++ [y]))) else Lw K B H D f g (i + 1) H3 := by
  obtain ⟨Bi, acc, l, hb, hh, hq⟩ := hw
  refine ht Bi l Bi Hi (Le.refl l.h) _ fun B3 H3 l3 => ?_
  have b3 : B3 D = none := l3.own hh hb
  have h3 : H3 D = some (.lst acc) := l3.k D _ (by simp) hh
  cases hf : f i with
  | false =>
    rw [if_neg Bool.false_ne_true]
    exact ⟨B3, acc, l.trans l3, b3, h3, by rw [picked_no hf]; exact hq.mono l3.b⟩
  | true =>
    rw [if_pos rfl]
    refine he B3 H3 (l.trans l3) hf B3 H3 (Le.refl l3.h) _ fun v B4 H4 l4 hv => ?_
    have b4 : B4 D = none := l4.own h3 b3
    have h4 : H4 D = some (.lst acc) := l4.k D _ (by simp) h3
    have hlen : acc.length ≤ i := by rw [hq.length]; exact picked_len f g i
    have hsl : 100000 < sizeLine := by rw [sizeLine_eq]; decide
    refine ⟨acc, h4, by omega, B4, acc ++ [v], ?_, b4, upd_same, ?_⟩
    · have l5 : Le [D] B4 H4 B4 (upd H4 D (.lst (acc ++ [v]))) := Le.put l4.h b4 (by simp)
      have l6 := (l.trans l3).trans l4
      refine ⟨l6.b, l5.h, fun a o _ e => ?_, fun a e => ?_, l6.n⟩
      · have hne : a ≠ D := fun z => by rw [z, hD] at e; cases e
        rw [upd_ne hne]
        exact l6.k a o (by simp) e
      · have := l6.t a e
        unfold upd
        split
        · simp
        · exact this
    · rw [picked_yes hf]
      exact ((hq.mono l3.b).mono l4.b).append (.cons hv .nil)
/-- over a list, over a tuple: the target a name j -/
theorem ev_lcL {xs : List PyData} {j : Nat} {vs : List Nat} (f : Nat → Bool) (g : Nat → PyData) (h : Ev K tl σ B H (.list xs)) (hz : xs.length ≤ 100000) (hw : ∀ x, wipe ((wipe σ vs).set j (some x)) vs = wipe σ vs)
    (ht : ∀ (i : Nat) (d : PyData) (v : V) B1 H1, Le [] B H B1 H1 → xs[i]? = some d → Dq K B1 v d → EvT tt ((wipe σ vs).set j (some v)) B1 H1 (f i))
    (he : ∀ (i : Nat) (d : PyData) (v : V) B1 H1, Le [] B H B1 H1 → xs[i]? = some d → Dq K B1 v d → f i = true → Ev K te ((wipe σ vs).set j (some v)) B1 H1 (g i)) :
    Ev K (tLc (iList K tl) (gName j) tt te vs) σ B H (.list (picked f g xs.length)) := fun B0 H0 l0 Q q => h B0 H0 l0 _ fun u B1 H1 l1 hu => by
  cases hu with
  | lst hs hq =>
    rename_i a ys
    refine ⟨a, rfl, ⟨ys, .inl (.inl (l1.h _ _ hs))⟩, fun D hD => ?_⟩
    have hlen := hq.length
    refine lc_list (xs := ys) (Lw K B1 H1 D f g) ⟨B1, [], Le.made l1.h hD, ?_, upd_same, .nil⟩ (fun i Hi _ p => ?_) (fun i x Hi hi p => ⟨hw x, ?_⟩) (fun Hi p => ?_)
    · cases z : B1 D with
      | none => rfl
      | some o => rw [l1.h D o z] at hD; cases hD
    · obtain ⟨Bi, acc, l, _⟩ := p
      exact .inl (.inl (l.h _ _ (l.b _ _ hs)))
    · obtain ⟨d, hd, hx⟩ := hq.get hi
      have hlt : i < ys.length := (List.getElem?_eq_some_iff.mp hi).1
      exact Lw.turn hD p (by omega) (fun Bi l => ht i d x Bi Hi (l0.trans (l1.trans l)) hd (hx.mono l.b)) (fun Bi Hj l hf => he i d x Bi Hj (l0.trans (l1.trans l)) hd (hx.mono l.b) hf)
    · obtain ⟨Bi, acc, l, hb, hh, hq2⟩ := p
      rw [hlen] at hq2
      have lg := l.give hD hb hh
      exact q (.ref D) _ Hi (l1.trans lg) (.lst upd_same (hq2.mono (Evl.Ex.new hb)))
theorem ev_lcT {xs : List PyData} {j : Nat} {vs : List Nat} (f : Nat → Bool) (g : Nat → PyData) (h : Ev K tl σ B H (.tuple xs)) (hz : xs.length ≤ 100000) (hw : ∀ x, wipe ((wipe σ vs).set j (some x)) vs = wipe σ vs)
    (ht : ∀ (i : Nat) (d : PyData) (v : V) B1 H1, Le [] B H B1 H1 → xs[i]? = some d → Dq K B1 v d → EvT tt ((wipe σ vs).set j (some v)) B1 H1 (f i))
    (he : ∀ (i : Nat) (d : PyData) (v : V) B1 H1, Le [] B H B1 H1 → xs[i]? = some d → Dq K B1 v d → f i = true → Ev K te ((wipe σ vs).set j (some v)) B1 H1 (g i)) :
    Ev K (tLc (iTup K tl) (gName j) tt te vs) σ B H (.list (picked f g xs.length)) := fun B0 H0 l0 Q q => h B0 H0 l0 _ fun u B1 H1 l1 hu => by
  cases hu with
  | tup hs hq =>
    rename_i a ys
    refine ⟨a, rfl, ⟨ys, Evl.ex_t l1.h hs⟩, fun D hD => ?_⟩
    have hlen := hq.length
    refine lc_tup (xs := ys) (Lw K B1 H1 D f g) ⟨B1, [], Le.made l1.h hD, ?_, upd_same, .nil⟩ (fun i Hi _ p => ?_) (fun i x Hi hi p => ⟨hw x, ?_⟩) (fun Hi p => ?_)
    · cases z : B1 D with
      | none => rfl
      | some o => rw [l1.h D o z] at hD; cases hD
    · obtain ⟨Bi, acc, l, _⟩ := p
      exact Evl.ex_t (l.b.trans l.h) hs
    · obtain ⟨d, hd, hx⟩ := hq.get hi
      have hlt : i < ys.length := (List.getElem?_eq_some_iff.mp hi).1
      exact Lw.turn hD p (by omega) (fun Bi l => ht i d x Bi Hi (l0.trans (l1.trans l)) hd (hx.mono l.b)) (fun Bi Hj l hf => he i d x Bi Hj (l0.trans (l1.trans l)) hd (hx.mono l.b) hf)
    · obtain ⟨Bi, acc, l, hb, hh, hq2⟩ := p
      rw [hlen] at hq2
      have lg := l.give hD hb hh
      exact q (.ref D) _ Hi (l1.trans lg) (.lst upd_same (hq2.mono (Evl.Ex.new hb)))
theorem et_yes : EvT tYes σ B H true := fun B1 H1 l Q q => q B1 H1 (Le.refl l.h)
end
end MA

set_option maxRecDepth 100000
set_option maxHeartbeats 2000000
namespace MA
open PySem PySem.Spec PyProof.Rows L2

/-! ## a def of the text, and what callers need of it -/
structure Df (K : PySem.W.Frag) (mg : PySem.Str → Option Value) (x : PySem.Str) (st : Stmt) (ps : List PySem.Str) : Prop where
  ex : ∃ f fd, Fun K x x st f fd ∧ mg x = some (.ref f) ∧ Binds K fd ps []
structure Cl (P : Program) (w : World) (K : PySem.W.Frag) (mg : PySem.Str → Option Value) (base : Heap) (CX : CXT) (k : Nat) (x : PySem.Str) (ps : List PySem.Str) (sp : Sp) : Prop where
  ex : ∃ f fd, FnOk P w K mg base CX k f fd ps sp ∧ mg x = some (.ref f) ∧ PySem.W.keepIn K (.ref f) = true ∧ Binds K fd ps []
section
variable {P : Program} {w : World} {K : PySem.W.Frag} {mg : PySem.Str → Option Value} {base : Heap}
theorem Cl.imp {CX : CXT} {k : Nat} {x : PySem.Str} {ps : List PySem.Str} {sp sp' : Sp} (C : Cl P w K mg base CX k x ps sp) (h : ∀ vs H Q E, sp' vs H Q E → sp vs H Q E) : Cl P w K mg base CX k x ps sp' := by
  obtain ⟨f, fd, F, r⟩ := C.ex
  exact ⟨f, fd, F.imp h, r⟩
theorem Cl.of {x : PySem.Str} {st : Stmt} {ps N : List PySem.Str} {k : Nat} {sp : Sp} (D : Df K mg x st ps) (S : FnScope N ps (defScope st)) (len : ∀ vs H Q E, sp vs H Q E → vs.length = ps.length)
    (hb : ∀ (f : Addr) (cdv : Value) (A : Around) (outer : List Env) (s : Shared) (H : Hp) (vs : List V) (Q : VK) (E : XK), Room k (A.deeper (envOfC x (defScope st) s.heap.objs.size f cdv)) → sp vs H Q E →
      ∃ t, PSs (cxOf CX0 P w K mg base N x (defScope st) f cdv A outer s H E).nox (defBody st) t ∧ t { nx := fun _ H' => Q .non H', rt := Q } (start N vs) H) : Cl P w K mg base CX0 (k + 1) x ps sp := by
  obtain ⟨f, fd, F, hm, hbd⟩ := D.ex
  exact ⟨f, fd, F.ok S len fun cdv A outer s H vs Q E hr h => hb f cdv A outer s H vs Q E hr h, hm, F.kp, hbd⟩
/-- a pure def -/
theorem Cl.pu {x : PySem.Str} {st : Stmt} {ps N : List PySem.Str} {k : Nat} {Pre : List PyData → Prop} {Post : List PyData → PyData → Prop} (D : Df K mg x st ps) (S : FnScope N ps (defScope st)) (hn : ∀ ds, Pre ds → ds.length = ps.length)
    (hb : ∀ (f : Addr) (cdv : Value) (A : Around) (outer : List Env) (s : Shared) (H : Hp) (vs : List V) (Q : VK) (E : XK) (B : Hp) (ds : List PyData), Room k (A.deeper (envOfC x (defScope st) s.heap.objs.size f cdv)) → Ex B H → DqAll K B vs ds → Pre ds →
      (∀ d, Post ds d → ∀ v B' H', Le [] B H B' H' → Dq K B' v d → Q v H') →
      ∃ t, PSs (cxOf CX0 P w K mg base N x (defScope st) f cdv A outer s H E).nox (defBody st) t ∧ t { nx := fun _ H' => Q .non H', rt := Q } (start N vs) H) : Cl P w K mg base CX0 (k + 1) x ps (Pu K Pre Post) :=
  Cl.of D S (pu_len hn) fun f cdv A outer s H vs Q E hr h => by
    obtain ⟨B, ds, e, h1, h2, q⟩ := h
    exact hb f cdv A outer s H vs Q E B ds hr e h1 h2 q
theorem pe_callC {X : Cx} {CX : CXT} {k : Nat} {x : PySem.Str} {ps : List PySem.Str} {sp : Sp} {E : XK} {p pos : Pos} {e : Expr} {es : List Expr} {t : TA} (C : Cl X.prog X.w X.K X.mg X.base CX k x ps sp) (hr : Room k X.A) (hg : Gl X x) (hx : Passes CX X E)
    (ha : PA X (e :: es) t) (hdb : (x == ("__debug__" : PySem.Str)) = false := by decide) (he : starEach (e :: es) X.env = (false, eval e X.env) :: starEach es X.env := by rfl) (hpl : (backTo pos (starEach es X.env)).any (·.1) = false := by rfl) :
    PE X (.Call (.Name x p) (e :: es) [] pos) (tCall sp [] E t) := by
  obtain ⟨f, fd, F, hm, hk, hb⟩ := C.ex
  exact pe_call F hr hg hm hk hb .nil hx ha hdb he hpl
end
/-! ## arguments, one, two, three -/
section
variable {K : PySem.W.Frag} {H : Hp}
theorem dq1 {vs : List V} {d : PyData} (h : DqAll K H vs [d]) : ∃ v, vs = [v] ∧ Dq K H v d := by
  cases h with
  | cons a b => cases b; exact ⟨_, rfl, a⟩
theorem dq2 {vs : List V} {d e : PyData} (h : DqAll K H vs [d, e]) : ∃ v u, vs = [v, u] ∧ Dq K H v d ∧ Dq K H u e := by
  cases h with
  | cons a b => cases b with | cons b c => cases c; exact ⟨_, _, rfl, a, b⟩
theorem dq3 {vs : List V} {d e f : PyData} (h : DqAll K H vs [d, e, f]) : ∃ v u w, vs = [v, u, w] ∧ Dq K H v d ∧ Dq K H u e ∧ Dq K H w f := by
  cases h with
  | cons a b => cases b with | cons b c => cases c with | cons c z => cases z; exact ⟨_, _, _, rfl, a, b, c⟩
end
/-! ## the program's words: items, lines, commands, scripts -/
def isItemD : PyData → Bool
  | .int i => decide (0 ≤ i) && decide (i < 60)
  | _ => false
def itemsOk : List PyData → Bool
  | [] => true
  | d :: r => isItemD d && itemsOk r
def itemI : PyData → Int
  | .int i => i
  | _ => 0
def isLineD : PyData → Bool
  | .tuple ds => decide (1 ≤ ds.length) && decide (ds.length ≤ 60) && (ds.all isItemD && decide ((ds.map itemI).Nodup))
  | _ => false
def isWord : PyData → Bool
  | .str x => decide (x = "behind") || decide (x = "before")
  | _ => false
def isCommandD : PyData → Bool
  | .tuple [w, a, b] => isWord w && (isItemD a && (isItemD b && !decide (itemI a = itemI b)))
  | _ => false
def isScriptD : PyData → Bool
  | .tuple ds => decide (1 ≤ ds.length) && decide (ds.length ≤ 200) && ds.all isCommandD
  | _ => false
theorem item_int {d : PyData} (h : isItemD d = true) : ∃ i : Int, d = .int i ∧ 0 ≤ i ∧ i < 60 := by
  cases d with
  | int i =>
    simp only [isItemD, Bool.and_eq_true, decide_eq_true_eq] at h
    exact ⟨i, rfl, h.1, h.2⟩
  | _ => simp [isItemD] at h
theorem items_ints : ∀ {ds : List PyData}, ds.all isItemD = true → ds = (ds.map itemI).map PyData.int
  | [], _ => rfl
  | d :: r, h => by
    rw [List.all_cons, Bool.and_eq_true] at h
    obtain ⟨i, rfl, _⟩ := item_int h.1
    rw [List.map_cons, List.map_cons, ← items_ints h.2]
    rfl
end MA

set_option maxRecDepth 100000
set_option maxHeartbeats 2000000
namespace MA
open PySem PySem.Spec PyProof.Rows L2
theorem range_getD {α β : Type} (dflt : α) (p : α → Bool) (h : α → β) : ∀ (l : List α), (((List.range l.length).filter fun i => p (l.getD i dflt)).map fun i => h (l.getD i dflt)) = (l.filter p).map h := by
  intro l
  have e : (List.range l.length).map (fun i => l.getD i dflt) = l := by
    apply List.ext_getElem
    · simp
    · intro i h1 h2
      simp [List.getD, h2]
  have e2 : ((List.range l.length).filter fun i => p (l.getD i dflt)).map (fun i => h (l.getD i dflt)) = (((List.range l.length).map (fun i => l.getD i dflt)).filter p).map h := by
    rw [List.filter_map, List.map_map]
    rfl
  rw [e2, e]
theorem getD_of {α : Type} {l : List α} {i : Nat} {d dflt : α} (h : l[i]? = some d) : l.getD i dflt = d := by simp [List.getD, h]
section
variable {K : PySem.W.Frag} {σ : L2.St} {B H : Hp} {tl te : TE} {tt : TT}
theorem ev_compL {xs : List PyData} {j : Nat} {vs : List Nat} (p : PyData → Bool) (h : PyData → PyData) (hl : Ev K tl σ B H (.list xs)) (hz : xs.length ≤ 100000)
    (ht : ∀ (d : PyData) (v : V) B1 H1, Le [] B H B1 H1 → d ∈ xs → Dq K B1 v d → EvT tt ((wipe σ vs).set j (some v)) B1 H1 (p d))
    (he : ∀ (d : PyData) (v : V) B1 H1, Le [] B H B1 H1 → d ∈ xs → Dq K B1 v d → p d = true → Ev K te ((wipe σ vs).set j (some v)) B1 H1 (h d)) (hw : ∀ x, wipe ((wipe σ vs).set j (some x)) vs = wipe σ vs := by intro _; rfl) :
    Ev K (tLc (iList K tl) (gName j) tt te vs) σ B H (.list ((xs.filter p).map h)) := by
  have z := ev_lcL (te := te) (tt := tt) (j := j) (vs := vs) (fun i => p (xs.getD i .none)) (fun i => h (xs.getD i .none)) hl hz hw
    (fun i d v B1 H1 l hd hv => by rw [getD_of hd]; exact ht d v B1 H1 l (List.mem_of_getElem? hd) hv) (fun i d v B1 H1 l hd hv hf => by rw [getD_of hd] at hf ⊢; exact he d v B1 H1 l (List.mem_of_getElem? hd) hv hf)
  unfold picked at z
  rwa [range_getD] at z
theorem ev_compT {xs : List PyData} {j : Nat} {vs : List Nat} (p : PyData → Bool) (h : PyData → PyData) (hl : Ev K tl σ B H (.tuple xs)) (hz : xs.length ≤ 100000)
    (ht : ∀ (d : PyData) (v : V) B1 H1, Le [] B H B1 H1 → d ∈ xs → Dq K B1 v d → EvT tt ((wipe σ vs).set j (some v)) B1 H1 (p d))
    (he : ∀ (d : PyData) (v : V) B1 H1, Le [] B H B1 H1 → d ∈ xs → Dq K B1 v d → p d = true → Ev K te ((wipe σ vs).set j (some v)) B1 H1 (h d)) (hw : ∀ x, wipe ((wipe σ vs).set j (some x)) vs = wipe σ vs := by intro _; rfl) :
    Ev K (tLc (iTup K tl) (gName j) tt te vs) σ B H (.list ((xs.filter p).map h)) := by
  have z := ev_lcT (te := te) (tt := tt) (j := j) (vs := vs) (fun i => p (xs.getD i .none)) (fun i => h (xs.getD i .none)) hl hz hw
    (fun i d v B1 H1 l hd hv => by rw [getD_of hd]; exact ht d v B1 H1 l (List.mem_of_getElem? hd) hv) (fun i d v B1 H1 l hd hv hf => by rw [getD_of hd] at hf ⊢; exact he d v B1 H1 l (List.mem_of_getElem? hd) hv hf)
  unfold picked at z
  rwa [range_getD] at z
end
section
variable {K : PySem.W.Frag} {σ : L2.St} {B H : Hp} {te : TE} {t : TT} {D : Ends} {tu tw tz : TS} {d : PyData}
/-- an if without else, then the rest -/
theorem q_when {k : Bool} (h : EvT t σ B H k) (e : Ex B H) (h1 : k = true → ∀ B' H', Le [] B H B' H' → tu { D with nx := tz D } σ H') (h2 : k = false → ∀ B' H', Le [] B H B' H' → tz D σ H') : tSeq (tIfS t tu tNext) tz D σ H := s_if (D := { D with nx := tz D }) h e h1 h2
theorem s_when {k : Bool} (h : EvT t σ B H k) (e : Ex B H) (h1 : k = true → ∀ B' H', Le [] B H B' H' → tu D σ H') (h2 : k = false → ∀ B' H', Le [] B H B' H' → D.nx σ H') : tIfS t tu tNext D σ H := s_if h e h1 h2
theorem q_set {i : Nat} (h : Ev K te σ B H d) (e : Ex B H) (q : ∀ v B' H', Le [] B H B' H' → Dq K B' v d → tz D (σ.set i (some v)) H') : tSeq (tAsg te (gName i)) tz D σ H := s_set (D := { D with nx := tz D }) h e q
theorem q_drop (h : Ev K te σ B H d) (e : Ex B H) (q : ∀ B' H', Le [] B H B' H' → tz D σ H') : tSeq (tDrop te) tz D σ H := s_drop (D := { D with nx := tz D }) h e q
/-- a, b, c = a tuple -/
theorem gt3 {a b c : PyData} {i j l : Nat} {v : V} {Q : L2.St → Hp → Prop} (e : Ex B H) (hv : Dq K B v (.tuple [a, b, c])) (q : ∀ x y z, Dq K B x a → Dq K B y b → Dq K B z c → Q (((σ.set i (some x)).set j (some y)).set l (some z)) H) :
    gTup K 3 (gCons (gName i) (gCons (gName j) (gCons (gName l) gNil))) v σ H Q := by
  cases hv with
  | tup h1 q1 =>
    obtain ⟨x, y, z, rfl, hx, hy, hz⟩ := dq3 q1
    exact ⟨_, _, rfl, Evl.ex_t e h1, rfl, x, _, rfl, y, _, rfl, z, _, rfl, rfl, q x y z hx hy hz⟩
theorem gt2 {a b : PyData} {i j : Nat} {v : V} {Q : L2.St → Hp → Prop} (e : Ex B H) (hv : Dq K B v (.tuple [a, b])) (q : ∀ x y, Dq K B x a → Dq K B y b → Q ((σ.set i (some x)).set j (some y)) H) :
    gTup K 2 (gCons (gName i) (gCons (gName j) gNil)) v σ H Q := by
  cases hv with
  | tup h1 q1 =>
    obtain ⟨x, y, rfl, hx, hy⟩ := dq2 q1
    exact ⟨_, _, rfl, Evl.ex_t e h1, rfl, x, _, rfl, y, _, rfl, rfl, q x y hx hy⟩
end
section
variable {K : PySem.W.Frag} {σ : L2.St} {B H : Hp} {te : TE} {D : Ends} {tz : TS} {a b c : PyData}
theorem q_asg3 {i j l : Nat} (h : Ev K te σ B H (.tuple [a, b, c])) (e : Ex B H) (q : ∀ x y z B' H', Le [] B H B' H' → Dq K B' x a → Dq K B' y b → Dq K B' z c → tz D (((σ.set i (some x)).set j (some y)).set l (some z)) H') :
    tSeq (tAsg te (gTup K 3 (gCons (gName i) (gCons (gName j) (gCons (gName l) gNil))))) tz D σ H := h B H (Le.refl e) _ fun v B' H' l hv => gt3 l.h hv fun x y z hx hy hz => q x y z B' H' l hx hy hz
theorem q_asg2 {i j : Nat} (h : Ev K te σ B H (.tuple [a, b])) (e : Ex B H) (q : ∀ x y B' H', Le [] B H B' H' → Dq K B' x a → Dq K B' y b → tz D ((σ.set i (some x)).set j (some y)) H') :
    tSeq (tAsg te (gTup K 2 (gCons (gName i) (gCons (gName j) gNil)))) tz D σ H := h B H (Le.refl e) _ fun v B' H' l hv => gt2 l.h hv fun x y hx hy => q x y B' H' l hx hy
end
def rStrI : List V → Hp → VK → Prop := fun xs H Q => ∃ i, xs = [V.int i] ∧ i.natAbs.log2 < 1920 ∧ Q (.str (toString i)) H
theorem filter_true {α : Type} (l : List α) : (l.filter fun _ => true) = l := by simp
/-- pure, one argument -/
abbrev Pf1 (K : PySem.W.Frag) (Pre : PyData → Prop) (f : PyData → PyData) : Sp := Pf K (fun ds => ∃ d, ds = [d] ∧ Pre d) fun ds => f (ds.getD 0 .none)
section
variable {P : Program} {w : World} {K : PySem.W.Frag} {mg : PySem.Str → Option Value} {base : Heap} {σ : L2.St} {B H : Hp} {te : TE}
theorem Cl.pu1 {x : PySem.Str} {st : Stmt} {a : PySem.Str} {N : List PySem.Str} {k : Nat} {Pre : PyData → Prop} {g : PyData → PyData} (D : Df K mg x st [a]) (S : FnScope N [a] (defScope st))
    (hb : ∀ (f : Addr) (cdv : Value) (A : Around) (outer : List Env) (s : Shared) (H : Hp) (v : V) (Q : VK) (E : XK) (B : Hp) (d : PyData), Room k (A.deeper (envOfC x (defScope st) s.heap.objs.size f cdv)) → Ex B H → Dq K B v d → Pre d →
      (∀ v B' H', Le [] B H B' H' → Dq K B' v (g d) → Q v H') →
      ∃ t, PSs (cxOf CX0 P w K mg base N x (defScope st) f cdv A outer s H E).nox (defBody st) t ∧ t { nx := fun _ H' => Q .non H', rt := Q } (start N [v]) H) : Cl P w K mg base CX0 (k + 1) x [a] (Pf1 K Pre g) :=
  Cl.pu D S (fun ds h => by obtain ⟨d, rfl, _⟩ := h; rfl) fun f cdv A outer s H vs Q E B ds hr e hq hp k => by
    obtain ⟨d, rfl, hd⟩ := hp
    obtain ⟨v, rfl, hv⟩ := dq1 hq
    exact hb f cdv A outer s H v Q E B d hr e hv hd fun v B' H' l hv => k _ rfl v B' H' l hv
theorem ev_call1 {Pre : PyData → Prop} {g : PyData → PyData} {E : XK} {d : PyData} (h : Ev K te σ B H d) (hp : Pre d) : Ev K (tCall (Pf1 K Pre g) [] E (tCons te tNil)) σ B H (g d) := ev_call (f := fun ds => g (ds.getD 0 .none)) (ea_cons h ea_nil) ⟨d, rfl, hp⟩
end
def tlen : PyData → Nat
  | .tuple ds => ds.length
  | _ => 0
theorem isT {d : PyData} (h : isN "tuple" d = true) : ∃ ds, d = .tuple ds := by
  cases d with
  | tuple ds => exact ⟨ds, rfl⟩
  | _ => simp [isN, isNS, tyN] at h
theorem isS {d : PyData} (h : isN "str" d = true) : ∃ x, d = .str x := by
  cases d with
  | str x => exact ⟨x, rfl⟩
  | _ => simp [isN, isNS, tyN] at h
theorem all_id {ds : List PyData} (p : PyData → Bool) : (ds.map p).all id = ds.all p := by
  induction ds with
  | nil => rfl
  | cons d r ih => rw [List.map_cons, List.all_cons, List.all_cons, ih]; rfl
theorem rc_allD {K : PySem.W.Frag} {ds : List PyData} (p : PyData → Bool) : RC K (rAll K) [.list (ds.map fun d => .bool (p d))] (.bool (ds.all p)) := by
  have h := rc_all (K := K) (bs := ds.map p)
  rw [all_id, List.map_map] at h
  exact h
end MA

set_option maxRecDepth 100000
set_option maxHeartbeats 2000000
namespace MA
open PySem PySem.Spec PyProof.Rows L2

/-! ## strictly ascending lists of the same members -/
theorem asc_eq : ∀ {xs ys : List Int}, xs.Pairwise (· < ·) → ys.Pairwise (· < ·) → (∀ k, k ∈ xs ↔ k ∈ ys) → xs = ys
  | [], [], _, _, _ => rfl
  | [], y :: ys, _, _, h => absurd ((h y).mpr (List.mem_cons_self ..)) (by simp)
  | x :: xs, [], _, _, h => absurd ((h x).mp (List.mem_cons_self ..)) (by simp)
  | x :: xs, y :: ys, h1, h2, h => by
    rw [List.pairwise_cons] at h1 h2
    have a : x ≤ y := by
      rcases List.mem_cons.mp ((h y).mpr (List.mem_cons_self ..)) with e | m
      · omega
      · have := h1.1 y m; omega
    have b : y ≤ x := by
      rcases List.mem_cons.mp ((h x).mp (List.mem_cons_self ..)) with e | m
      · omega
      · have := h2.1 x m; omega
    have e : x = y := by omega
    subst e
    congr 1
    refine asc_eq h1.2 h2.2 fun k => ⟨fun m => ?_, fun m => ?_⟩
    · rcases List.mem_cons.mp ((h k).mp (List.mem_cons_of_mem _ m)) with z | z
      · have := h1.1 k m; omega
      · exact z
    · rcases List.mem_cons.mp ((h k).mpr (List.mem_cons_of_mem _ m)) with z | z
      · have := h2.1 k m; omega
      · exact z
/-- the ints below 60 for which p holds, ascending -/
def below (p : Int → Bool) : List Int := ((List.range 60).map fun (n : Nat) => (n : Int)).filter p
theorem mem_below {p : Int → Bool} {k : Int} : k ∈ below p ↔ 0 ≤ k ∧ k < 60 ∧ p k = true := by
  unfold below
  rw [List.mem_filter, List.mem_map]
  constructor
  · rintro ⟨⟨n, hn, rfl⟩, h⟩
    have := List.mem_range.mp hn
    exact ⟨by omega, by omega, h⟩
  · rintro ⟨h1, h2, h3⟩
    exact ⟨⟨k.toNat, List.mem_range.mpr (by omega), by omega⟩, h3⟩
theorem below_asc (p : Int → Bool) : (below p).Pairwise (· < ·) := by
  unfold below
  refine List.Pairwise.filter _ ?_
  rw [List.pairwise_map]
  exact List.Pairwise.imp (fun {a b} h => by omega) List.pairwise_lt_range
theorem below_nodup (p : Int → Bool) : (below p).Nodup := List.Pairwise.imp (fun {a b} h => by omega) (below_asc p)
theorem below_len (p : Int → Bool) : (below p).length ≤ 60 := by
  unfold below
  have := List.length_filter_le p ((List.range 60).map fun (n : Nat) => (n : Int))
  simpa using this
theorem nodup_le : ∀ (l m : List Int), l.Nodup → (∀ k ∈ l, k ∈ m) → l.length ≤ m.length
  | [], _, _, _ => Nat.zero_le _
  | x :: l, m, hn, h => by
    rw [List.nodup_cons] at hn
    have hx := h x (List.mem_cons_self ..)
    have h1 := nodup_le l (m.erase x) hn.2 fun k hk => by
      have hne : k ≠ x := fun e => hn.1 (e ▸ hk)
      exact (List.mem_erase_of_ne hne).mpr (h k (List.mem_cons_of_mem _ hk))
    have h2 : (m.erase x).length = m.length - 1 := List.length_erase_of_mem hx
    have h3 : 0 < m.length := List.length_pos_of_mem hx
    rw [List.length_cons]
    omega
/-! ## sorted({elt for t0 in i0 for elt in i1}) of ints below 60 -/
section
variable {K : PySem.W.Frag} {w : World} {σ : L2.St} {B H : Hp} {tl tl1 : TE}
/-- the set at D holds the ints of l -/
def SetIs (w : World) (H : Hp) (D : Addr) (l : List Int) : Prop := l.Nodup ∧ (∀ k ∈ l, 0 ≤ k ∧ k < 60) ∧ ∃ S : Int → Bool, H D = some (SetO w D S l.length) ∧ ∀ k, S k = true ↔ k ∈ l
theorem SetIs.small {D : Addr} {l : List Int} (h : SetIs w H D l) : l.length ≤ 60 := by
  have h1 := nodup_le l (below fun _ => true) h.1 fun k hk => mem_below.mpr ⟨(h.2.1 k hk).1, (h.2.1 k hk).2, rfl⟩
  have h2 := below_len fun _ => true
  omega
/-- the word: the ints of the first i commands and of j more -/
def Sw (K : PySem.W.Frag) (w : World) (B H : Hp) (D : Addr) (p : Int → Prop) (Hi : Hp) : Prop := ∃ Bi l, Le [] B H Bi Hi ∧ Bi D = none ∧ SetIs w Hi D l ∧ ∀ k, k ∈ l ↔ p k
theorem Sw.add {D : Addr} {p q : Int → Prop} {Hi : Hp} {z : Int} (hD : H D = none) (h : Sw K w B H D p Hi) (hz : 0 ≤ z ∧ z < 60) (hq : ∀ k, q k ↔ p k ∨ k = z) :
    ∃ (S : Int → Bool) (n : Nat), Hi D = some (SetO w D S n) ∧ n + 1 < scanBound ∧ Sw K w B H D q (upd Hi D (SetO w D (fun j => S j || decide (j = z)) (if S z = true then n else n + 1))) := by
  obtain ⟨Bi, l, le, hb, hs, hm⟩ := h
  have sm := hs.small
  obtain ⟨hn, hr, S, e, hS⟩ := hs
  refine ⟨S, l.length, e, by unfold scanBound; omega, Bi, if z ∈ l then l else l ++ [z], ?_, hb, ?_, fun k => ?_⟩
  · have l5 := Le.put (M := [D]) (o := SetO w D (fun j => S j || decide (j = z)) (if S z = true then l.length else l.length + 1)) le.h hb (by simp)
    refine ⟨le.b, l5.h, fun a o _ e => ?_, fun a e => l5.t a (le.t a e), le.n⟩
    have hne : a ≠ D := fun z => by rw [z, hD] at e; cases e
    rw [upd_ne hne]
    exact le.k a o (by simp) e
  · by_cases hz' : z ∈ l
    · rw [if_pos hz', if_pos ((hS z).mpr hz')]
      refine ⟨hn, hr, _, upd_same, fun k => ?_⟩
      rw [Bool.or_eq_true, hS k, decide_eq_true_eq]
      exact ⟨fun x => x.elim id fun e => e ▸ hz', .inl⟩
    · rw [if_neg hz', if_neg (fun q => hz' ((hS z).mp q))]
      refine ⟨?_, fun k hk => ?_, (fun j => S j || decide (j = z)), ?_, fun k => ?_⟩
      · rw [List.nodup_append]
        refine ⟨hn, by simp, fun a ha b hb e => ?_⟩
        rw [List.mem_singleton] at hb
        exact hz' (by rw [← hb, ← e]; exact ha)
      · rcases List.mem_append.mp hk with m | m
        · exact hr k m
        · rw [List.mem_singleton.mp m]; exact hz
      · rw [List.length_append]; exact upd_same
      · rw [Bool.or_eq_true, hS k, decide_eq_true_eq, List.mem_append, List.mem_singleton]
  · rw [hq k, ← hm k]
    split
    · rename_i hz'
      exact ⟨.inl, fun x => x.elim id fun e => e ▸ hz'⟩
    · rw [List.mem_append, List.mem_singleton]
/-- as Ev, and the answer is a new object -/
def EvN (K : PySem.W.Frag) (te : TE) (σ : L2.St) (B H : Hp) (d : PyData) : Prop := ∀ B1 H1, Le [] B H B1 H1 → ∀ Q : VK, (∀ v B2 H2, Le [] B1 H1 B2 H2 → (∃ a, v = .ref a ∧ H1 a = none) → Dq K B2 v d → Q v H2) → te σ H1 Q
theorem EvN.ev {te : TE} {d : PyData} (h : EvN K te σ B H d) : Ev K te σ B H d := fun B1 H1 l Q q => h B1 H1 l Q fun v B2 H2 l2 _ hv => q v B2 H2 l2 hv
theorem Le.back {M : List Addr} {B' H' : Hp} (l : Le M B H B' H') {a : Addr} (h : H' a = none) : H a = none := by
  cases z : H a with
  | none => rfl
  | some o => exact absurd h (l.t a (by rw [z]; simp))
theorem evN_sortedSet {xs : List PyData} {j0 j1 : Nat} {vs vs1 : List Nat} (f : PyData → List Int) (hl : Ev K tl σ B H (.tuple xs)) (hf : ∀ d ∈ xs, ∀ k ∈ f d, 0 ≤ k ∧ k < 60)
    (hi : ∀ (d : PyData) (v : V) B1 H1, Le [] B H B1 H1 → d ∈ xs → Dq K B1 v d → Ev K tl1 ((wipe σ vs).set j0 (some v)) B1 H1 (.tuple ((f d).map PyData.int)))
    (hw : ∀ x, wipe ((wipe σ vs).set j0 (some x)) vs = wipe σ vs := by intro _; rfl)
    (hw1 : ∀ x y, wipe ((wipe ((wipe σ vs).set j0 (some x)) vs1).set j1 (some y)) vs1 = wipe ((wipe σ vs).set j0 (some x)) vs1 := by intro _ _; rfl)
    (hg : ∀ x y, ((wipe ((wipe σ vs).set j0 (some x)) vs1).set j1 (some y))[j1]? = some (some y) := by intro _ _; rfl) :
    EvN K (tCB (rSortedSet w) (tCons (tSc2 w (iTup K tl) (gName j0) (iTup K tl1) (gName j1) (tVar j1) vs vs1) tNil)) σ B H (.list ((below fun k => xs.any fun d => decide (k ∈ f d)).map PyData.int)) := fun B0 H0 l0 Q q => by
  refine hl B0 H0 l0 _ fun u B1 H1 l1 hu => ?_
  cases hu with
  | tup hs hq =>
    rename_i a ys
    refine ⟨a, rfl, ⟨ys, Evl.ex_t l1.h hs⟩, fun D hD => ?_⟩
    have b1 : B1 D = none := by
      cases z : B1 D with
      | none => rfl
      | some o => rw [l1.h D o z] at hD; cases hD
    refine ⟨fun i m Hi => m = ys.length - i ∧ i ≤ ys.length ∧ Sw K w B1 H1 D (fun k => ∃ d ∈ xs.take i, k ∈ f d) Hi, ⟨_, rfl, Nat.zero_le _, B1, [], Le.made l1.h hD, b1, ⟨by simp, by simp, _, upd_same, by simp⟩, by simp⟩, ?_⟩
    rintro i m Hi ⟨rfl, hi', p⟩
    have hsq : SqT K Hi a ys := by
      obtain ⟨Bi, l, le, _⟩ := p
      exact Evl.ex_t (le.b.trans le.h) hs
    by_cases hlt : i < ys.length
    · have hy : ys[i]? = some ys[i] := List.getElem?_eq_getElem hlt
      obtain ⟨d, hd, hx⟩ := hq.get hy
      have hdm : d ∈ xs := List.mem_of_getElem? hd
      refine .inr ⟨⟨ys, ys[i], hsq, hy⟩, fun Hn => Sw K w B1 H1 D (fun k => ∃ d ∈ xs.take (i + 1), k ∈ f d) Hn, fun Hn p' => ⟨ys.length - (i + 1), by omega, rfl, hlt, p'⟩, fun x Hy y => ?_⟩
      obtain ⟨rfl, y⟩ := y
      have ex : x = ys[i] := Option.some.inj ((y ys hsq).symm.trans hy)
      subst ex
      refine ⟨hw _, ?_⟩
      have htake : xs.take (i + 1) = xs.take i ++ [d] := by rw [List.take_add_one, hd]; rfl
      obtain ⟨Bi, l, le, hb, hs1, hm⟩ := p
      refine hi d ys[i] Bi Hy (l0.trans (l1.trans le)) hdm (hx.mono le.b) Bi Hy (Le.refl le.h) _ fun u2 B2 H2 l2 hu2 => ?_
      have b2 : B2 D = none := by
        obtain ⟨_, _, S, e, _⟩ := hs1
        exact l2.own e hb
      cases hu2 with
      | tup hs2 hq2 =>
        rename_i a2 ys2
        cases ofInts hq2
        have start : Sw K w B1 H1 D (fun k => (∃ d ∈ xs.take i, k ∈ f d) ∨ k ∈ (f d).take 0) H2 := by
          obtain ⟨h1, h2, S, e, hS⟩ := hs1
          exact ⟨B2, l, le.trans l2, b2, ⟨h1, h2, S, l2.k D _ (by simp) e, hS⟩, fun k => by rw [hm k]; simp⟩
        have keepT : ∀ {Hj : Hp} {pp : Int → Prop}, Sw K w B1 H1 D pp Hj → Ex B2 Hj → SqT K Hj a2 ((f d).map V.int) := fun {Hj pp} _ e => Evl.ex_t e hs2
        refine ⟨a2, rfl, ⟨_, Evl.ex_t l2.h hs2⟩, fun j kk Hj => kk = (f d).length - j ∧ j ≤ (f d).length ∧ Ex B2 Hj ∧ Sw K w B1 H1 D (fun k => (∃ d ∈ xs.take i, k ∈ f d) ∨ k ∈ (f d).take j) Hj, ⟨_, rfl, Nat.zero_le _, l2.h, start⟩, ?_⟩
        rintro j kk Hj ⟨rfl, hj, ex2, p2⟩
        have hsq2 : SqT K Hj a2 ((f d).map V.int) := Evl.ex_t ex2 hs2
        by_cases hlt2 : j < (f d).length
        · have hz : (f d)[j]? = some (f d)[j] := List.getElem?_eq_getElem hlt2
          have hzv : ((f d).map V.int)[j]? = some (.int (f d)[j]) := by rw [List.getElem?_map, hz]; rfl
          refine .inr ⟨⟨_, _, hsq2, hzv⟩, fun Hn => Ex B2 Hn ∧ Sw K w B1 H1 D (fun k => (∃ d ∈ xs.take i, k ∈ f d) ∨ k ∈ (f d).take (j + 1)) Hn, fun Hn p' => ⟨(f d).length - (j + 1), by omega, rfl, hlt2, p'⟩, fun x2 Hy2 y2 => ?_⟩
          obtain ⟨rfl, y2⟩ := y2
          have ex3 : x2 = .int (f d)[j] := Option.some.inj ((y2 _ hsq2).symm.trans hzv)
          subst ex3
          refine ⟨hw1 _ _, .int (f d)[j], hg _ _, ?_⟩
          obtain ⟨S, n, e1, e2, e3⟩ := Sw.add (q := fun k => (∃ d ∈ xs.take i, k ∈ f d) ∨ k ∈ (f d).take (j + 1)) hD p2 (hf d hdm _ (List.getElem_mem hlt2)) fun k => by
            rw [List.take_add_one, hz]
            simp only [Option.toList, List.mem_append, List.mem_singleton]
            rw [or_assoc]
          refine ⟨_, S, n, rfl, e1, e2, fun c o e => ?_, e3⟩
          have hne : c ≠ D := fun z => by rw [z, b2] at e; cases e
          rw [upd_ne hne]
          exact ex2 c o e
        · refine .inl ⟨⟨_, hsq2, by rw [List.length_map]; omega⟩, ?_⟩
          have ej : j = (f d).length := by omega
          subst ej
          obtain ⟨B3, l3, h3, h4, h5, h6⟩ := p2
          refine ⟨B3, l3, h3, h4, h5, fun k => ?_⟩
          rw [h6 k, List.take_length, htake]
          simp only [List.mem_append, List.mem_singleton]
          constructor
          · rintro (⟨d', m, hk⟩ | hk)
            · exact ⟨d', .inl m, hk⟩
            · exact ⟨d, .inr rfl, hk⟩
          · rintro ⟨d', m | rfl, hk⟩
            · exact .inl ⟨d', m, hk⟩
            · exact .inr hk
    · have ei : i = ys.length := by omega
      subst ei
      refine .inl ⟨⟨ys, hsq, Nat.le_refl _⟩, ?_⟩
      obtain ⟨Bi, l, le, hb, hs1, hm⟩ := p
      have sm := hs1.small
      obtain ⟨h1, h2, S, e, hS⟩ := hs1
      refine ⟨D, S, l.length, rfl, e, by omega, fun ns pa hasc hmem hlen hpa => ?_⟩
      have ens : ns = below fun k => xs.any fun d => decide (k ∈ f d) := by
        refine asc_eq hasc (below_asc _) fun k => ?_
        rw [hmem k, hS k, hm k, mem_below, hq.length, List.take_length]
        constructor
        · rintro ⟨d, m, hk⟩
          exact ⟨(hf d m k hk).1, (hf d m k hk).2, List.any_eq_true.mpr ⟨d, m, decide_eq_true hk⟩⟩
        · rintro ⟨_, _, h⟩
          obtain ⟨d, m, hk⟩ := List.any_eq_true.mp h
          exact ⟨d, m, of_decide_eq_true hk⟩
      subst ens
      have ln := Le.new (M := []) (o := .lst ((below fun k => xs.any fun d => decide (k ∈ f d)).map V.int)) le.h hpa
      exact q (.ref pa) _ _ (l1.trans (le.trans ln)) ⟨pa, rfl, (l1.trans le).back hpa⟩ (.lst upd_same (dqInts _))
end
end MA

set_option maxRecDepth 100000
set_option maxHeartbeats 2000000
namespace MA
open PySem PySem.Spec PyProof.Rows L2
section
variable {K : PySem.W.Frag} {σ : L2.St} {B H : Hp} {tl te : TE} {tt : TT}
/-- [.. for i, x in enumerate(t) if ..] -/
theorem ev_lcEnT {xs : List PyData} {i1 i2 : Nat} {vs : List Nat} (f : Nat → Bool) (g : Nat → PyData) (h : Ev K tl σ B H (.tuple xs)) (hz : xs.length ≤ 100000)
    (ht : ∀ (i : Nat) (d : PyData) (v : V) B1 H1, Le [] B H B1 H1 → xs[i]? = some d → Dq K B1 v d → EvT tt (((wipe σ vs).set i1 (some (.int (i : Nat)))).set i2 (some v)) B1 H1 (f i))
    (he : ∀ (i : Nat) (d : PyData) (v : V) B1 H1, Le [] B H B1 H1 → xs[i]? = some d → Dq K B1 v d → f i = true → Ev K te (((wipe σ vs).set i1 (some (.int (i : Nat)))).set i2 (some v)) B1 H1 (g i))
    (hw : ∀ x y, wipe (((wipe σ vs).set i1 (some x)).set i2 (some y)) vs = wipe σ vs := by intro _ _; rfl) :
    Ev K (tLc (iEnT K (tCons tl tNil)) (gTup K 2 (gCons (gName i1) (gCons (gName i2) gNil))) tt te vs) σ B H (.list (picked f g xs.length)) := fun B0 H0 l0 Q q => by
  refine h B0 H0 l0 _ fun u B1 H1 l1 hu => ?_
  cases hu with
  | tup hs hq =>
    rename_i a ys
    refine ⟨a, ys, rfl, Evl.ex_t l1.h hs, fun D hD => ?_⟩
    have hlen := hq.length
    refine lc_it (walk_enT (xs := ys)) (Lw K B1 H1 D f g) ⟨B1, [], Le.made l1.h hD, ?_, upd_same, .nil⟩ (fun i Hi _ p => ?_) (fun i x Hi Hi' hi p y => ?_) (fun Hi p => ?_)
    · cases z : B1 D with
      | none => rfl
      | some o => rw [l1.h D o z] at hD; cases hD
    · obtain ⟨Bi, acc, l, _⟩ := p
      exact Evl.ex_t (l.b.trans l.h) hs
    · obtain ⟨T, x1, x2, rfl, hT, rfl, e1, e2⟩ := y
      cases Option.some.inj e1
      obtain ⟨Bi, acc, l, hb, hh, hq2⟩ := p
      have ln := Le.new (M := []) (o := .tup [.int (i : Nat), x2]) l.h hT
      refine ⟨T, [.int (i : Nat), x2], rfl, .inl (.inl upd_same), rfl, .int (i : Nat), [x2], rfl, x2, [], rfl, rfl, ?_⟩
      obtain ⟨d, hd, hx⟩ := hq.get e2
      have p' : Lw K B1 H1 D f g i (upd Hi T (.tup [.int (i : Nat), x2])) := ⟨_, acc, l.trans ln, ln.own hh hb, ln.k D _ (by simp) hh, hq2.mono ln.b⟩
      exact ⟨hw _ _, Lw.turn hD p' (by omega) (fun Bi l => ht i d x2 Bi _ (l0.trans (l1.trans l)) hd (hx.mono l.b)) (fun Bi Hj l hf => he i d x2 Bi Hj (l0.trans (l1.trans l)) hd (hx.mono l.b) hf)⟩
    · obtain ⟨Bi, acc, l, hb, hh, hq2⟩ := p
      rw [hlen] at hq2
      have lg := l.give hD hb hh
      exact q (.ref D) _ Hi (l1.trans lg) (.lst upd_same (hq2.mono (Evl.Ex.new hb)))
/-- for x in t, pure -/
theorem q_forT {xs : List PyData} {g : TG} {tb tz : TS} {D : Ends} (hl : Ev K tl σ B H (.tuple xs)) (e : Ex B H) (I : Nat → L2.St → Hp → Prop) (h0 : ∀ B1 H1, Le [] B H B1 H1 → I 0 σ B1)
    (hs : ∀ (i : Nat) (d : PyData) (v : V) σ' B' H' N, Le [] B H B' H' → xs[i]? = some d → Dq K B' v d → I i σ' B' → (∀ σ3 B3 H3, Le [] B' H' B3 H3 → I (i + 1) σ3 B3 → N σ3 H3) →
      g v σ' H' fun σ2 H2 => tb { D with nx := N, ct := N, bk := tz D } σ2 H2)
    (hd : ∀ σ' B' H', Le [] B H B' H' → I xs.length σ' B' → tz D σ' H') : tSeq (tFor (iTup K tl) g tb) tz D σ H := by
  refine hl B H (Le.refl e) _ fun u B1 H1 l1 hu => ?_
  cases hu with
  | tup hv hq =>
    rename_i a ys
    refine ⟨a, rfl, ⟨ys, Evl.ex_t l1.h hv⟩, for_tup (xs := ys) (fun i σ' H' => ∃ B', Le [] B1 H1 B' H' ∧ I i σ' B') ⟨B1, Le.refl l1.h, h0 B1 H1 l1⟩ (fun i σ' H' _ p => ?_) (fun i x σ' H' hi p => ?_) (fun σ' H' p => ?_)⟩
    · obtain ⟨B', l, _⟩ := p
      exact Evl.ex_t (l.b.trans l.h) hv
    · obtain ⟨B', l, hI⟩ := p
      obtain ⟨d, hd, hx⟩ := hq.get hi
      exact hs i d x σ' B' H' _ (l1.trans l) hd (hx.mono l.b) hI fun σ3 B3 H3 l3 hI3 => ⟨B3, l.trans l3, hI3⟩
    · obtain ⟨B', l, hI⟩ := p
      rw [hq.length] at hI
      exact hd σ' B' H' (l1.trans l) hI
end
theorem asc_of_sorted : ∀ {xs : List Int}, xs.Pairwise (· ≤ ·) → xs.Nodup → xs.Pairwise (· < ·)
  | [], _, _ => .nil
  | x :: xs, h1, h2 => by
    rw [List.pairwise_cons] at h1
    rw [List.nodup_cons] at h2
    rw [List.pairwise_cons]
    exact ⟨fun a m => by have := h1.1 a m; have : a ≠ x := fun z => h2.1 (z ▸ m); omega, asc_of_sorted h1.2 h2.2⟩
theorem rc_sorted {K : PySem.W.Frag} {ns ys : List Int} (h1 : ns.Nodup) (h2 : ys.Pairwise (· < ·)) (h3 : ∀ k, k ∈ ns ↔ k ∈ ys) : RC K (rSortedI K) [.list (ns.map PyData.int)] (.list (ys.map PyData.int)) := fun B H vs e hvs Q q => by
  obtain ⟨v, rfl, hv⟩ := dq1 hvs
  cases hv with
  | lst h hq =>
    rename_i a xs
    cases ofInts hq
    refine ⟨a, ns, rfl, .inl (.inl (e _ _ h)), fun ns' p hp hs hn => ?_⟩
    have hn' : ns'.Nodup := hp.symm.nodup h1
    have : ns' = ys := asc_eq (asc_of_sorted hs hn') h2 fun k => by rw [hp.mem_iff, h3 k]
    subst this
    exact q (.ref p) _ _ (Le.new (M := []) e hn) (.lst upd_same (dqInts _))
/-! a list of ints in which each stands at its first place -/
theorem nodup_iff : ∀ (ns : List Int), (∀ i k, ns[i]? = some k → k ∉ ns.take i) ↔ ns.Nodup := by
  intro ns
  constructor
  · intro h
    rw [List.nodup_iff_pairwise_ne, List.pairwise_iff_getElem]
    intro i j hi hj hij e
    refine h j ns[j] (List.getElem?_eq_getElem hj) ?_
    rw [← e]
    exact List.mem_take_iff_getElem.mpr ⟨i, by omega, rfl⟩
  · intro h i k hi hm
    rw [List.nodup_iff_pairwise_ne, List.pairwise_iff_getElem] at h
    obtain ⟨j, hj, e⟩ := List.mem_take_iff_getElem.mp hm
    have hlt : i < ns.length := (List.getElem?_eq_some_iff.mp hi).1
    refine h j i (by omega) hlt (by omega) ?_
    rw [e]
    exact (List.getElem?_eq_some_iff.mp hi).2.symm
theorem picked_nil {f : Nat → Bool} {g : Nat → PyData} {n : Nat} : (picked f g n).isEmpty = true ↔ ∀ i < n, f i = false := by
  unfold picked
  rw [List.isEmpty_iff, List.map_eq_nil_iff, List.filter_eq_nil_iff]
  constructor
  · intro h i hi
    simpa using h i (List.mem_range.mpr hi)
  · intro h i hi
    rw [h i (List.mem_range.mp hi)]
    decide
theorem filter_allD {ds : List PyData} (p : PyData → Bool) : (ds.filter fun d => !p d).isEmpty = ds.all p := by
  induction ds with
  | nil => rfl
  | cons d r ih =>
    rw [List.filter_cons, List.all_cons]
    cases h : p d with
    | true => simpa using ih
    | false => rfl
theorem cut_to {α : Type} (xs : List α) (i : Nat) : cutG xs none (some (i : Int)) = xs.take i := by
  unfold cutG
  rw [HT.sIx_none, HT.sIx_nat, List.drop_zero, Nat.sub_zero]
  by_cases h : i ≤ xs.length
  · rw [Nat.min_eq_left h]
  · rw [Nat.min_eq_right (by omega), List.take_of_length_le (Nat.le_refl _), List.take_of_length_le (by omega)]
end MA

set_option maxRecDepth 100000
set_option maxHeartbeats 2000000
namespace MA
open PySem PySem.Spec PyProof.Rows L2

/-! ## a list of three ints that is read and changed on the way: the bag of a drawn case -/
structure Bag (g : Addr) (B H : Hp) : Prop where
  own : B g = none
  has : ∃ x y z : Int, H g = some (.lst [.int x, .int y, .int z])
theorem Le.local {M : List Addr} {p : Addr} {B H B' H' : Hp} (l : Le (p :: M) B H B' H') (hp : H p = none) : Le M B H B' H' :=
  ⟨l.b, l.h, fun a o ha e => l.k a o (fun m => by
    rcases List.mem_cons.mp m with z | m
    · rw [z, hp] at e; cases e
    · exact ha m) e, l.t, l.n⟩
section
variable {g : Addr} {B H B' H' : Hp}
theorem Bag.pure (b : Bag g B H) (l : Le [] B H B' H') : Bag g B' H' := by
  obtain ⟨x, y, z, h⟩ := b.has
  exact ⟨l.own h b.own, x, y, z, l.k g _ (by simp) h⟩
theorem Bag.ne (b : Bag g B H) {p : Addr} (hp : H p = none) : p ≠ g := fun z => by
  obtain ⟨x, y, w, h⟩ := b.has
  rw [z, h] at hp
  cases hp
end
section
variable (K : PySem.W.Frag) (g : Addr)
def Eb (te : TE) (σ : L2.St) (B H : Hp) (R : PyData → Prop) : Prop := ∀ B1 H1, Le [g] B H B1 H1 → Bag g B1 H1 → ∀ Q : VK, (∀ d v B2 H2, R d → Le [g] B1 H1 B2 H2 → Bag g B2 H2 → Dq K B2 v d → Q v H2) → te σ H1 Q
def EbA (ta : TA) (σ : L2.St) (B H : Hp) (R : List PyData → Prop) : Prop := ∀ B1 H1, Le [g] B H B1 H1 → Bag g B1 H1 → ∀ Q : List V → Hp → Prop, (∀ ds vs B2 H2, R ds → Le [g] B1 H1 B2 H2 → Bag g B2 H2 → DqAll K B2 vs ds → Q vs H2) → ta σ H1 Q
def EbT (t : TT) (σ : L2.St) (B H : Hp) (R : Bool → Prop) : Prop := ∀ B1 H1, Le [g] B H B1 H1 → Bag g B1 H1 → ∀ Q : Bool → Hp → Prop, (∀ k B2 H2, R k → Le [g] B1 H1 B2 H2 → Bag g B2 H2 → Q k H2) → t σ H1 Q
/-- a def that draws from the bag, its first argument -/
def Bg (Pre : List PyData → Prop) (Post : List PyData → PyData → Prop) : Sp := fun vs H Q _ => ∃ g us B ds, vs = .ref g :: us ∧ Ex B H ∧ Bag g B H ∧ DqAll K B us ds ∧ Pre ds ∧ ∀ d, Post ds d → ∀ v B' H', Le [g] B H B' H' → Bag g B' H' → Dq K B' v d → Q v H'
end
abbrev RI (P : Int → Prop) : PyData → Prop := fun d => ∃ i : Int, d = .int i ∧ P i
section
variable {K : PySem.W.Frag} {g : Addr} {σ : L2.St} {B H : Hp} {ta tb te : TE} {t u : TT} {d : PyData} {R R1 Rb : PyData → Prop}
theorem eb_of (h : ∀ B1 H1, Le [g] B H B1 H1 → Ev K te σ B1 H1 d) : Eb K g te σ B H (· = d) := fun B1 H1 l b Q q =>
  h B1 H1 l B1 H1 (Le.refl l.h) Q fun v B2 H2 l2 hv => q d v B2 H2 rfl l2.any (b.pure l2) hv
theorem eba_of {ts : TA} {ds : List PyData} (h : ∀ B1 H1, Le [g] B H B1 H1 → EvA K ts σ B1 H1 ds) : EbA K g ts σ B H (· = ds) := fun B1 H1 l b Q q =>
  h B1 H1 l B1 H1 (Le.refl l.h) Q fun v B2 H2 l2 hv => q ds v B2 H2 rfl l2.any (b.pure l2) hv
theorem ebt_of {k : Bool} (h : ∀ B1 H1, Le [g] B H B1 H1 → EvT t σ B1 H1 k) : EbT g t σ B H (· = k) := fun B1 H1 l b Q q =>
  h B1 H1 l B1 H1 (Le.refl l.h) Q fun B2 H2 l2 => q k B2 H2 rfl l2.any (b.pure l2)
theorem Eb.imp (h : Eb K g te σ B H R1) (hr : ∀ d, R1 d → R d) : Eb K g te σ B H R := fun B1 H1 l b Q q => h B1 H1 l b Q fun d v B2 H2 r => q d v B2 H2 (hr d r)
theorem Eb.up {B' H' : Hp} (l : Le [g] B H B' H') (h : Eb K g te σ B H R) : Eb K g te σ B' H' R := fun B1 H1 l1 b Q q => h B1 H1 (l.trans l1) b Q q
theorem eb_op {r : R2} (ha : Eb K g ta σ B H R1) (hb : Eb K g tb σ B H Rb) (hr : ∀ x y, R1 x → Rb y → ∃ z, RV K r x y z ∧ R z) : Eb K g (tOp r ta tb) σ B H R := fun B1 H1 l b Q q =>
  ha B1 H1 l b _ fun x v B2 H2 r1 l2 b2 hv => hb B2 H2 (l.trans l2) b2 _ fun y w B3 H3 r2 l3 b3 hw => by
    obtain ⟨z, rv, rz⟩ := hr x y r1 r2
    exact rv B3 H3 v w l3.h (hv.mono l3.b) hw Q fun o B4 H4 l4 ho => q z o B4 H4 rz ((l2.trans l3).trans l4.any) (b3.pure l4) ho
theorem eba_nil : EbA K g tNil σ B H (· = []) := fun B1 H1 l b Q q => q [] [] B1 H1 rfl (Le.refl l.h) b .nil
theorem eba_cons {tr : TA} {Rr : List PyData → Prop} (ha : Eb K g ta σ B H R1) (hr : EbA K g tr σ B H Rr) : EbA K g (tCons ta tr) σ B H (fun ds => ∃ d r, ds = d :: r ∧ R1 d ∧ Rr r) := fun B1 H1 l b Q q =>
  ha B1 H1 l b _ fun x v B2 H2 r1 l2 b2 hv => hr B2 H2 (l.trans l2) b2 _ fun ys vs B3 H3 r2 l3 b3 hs => q (x :: ys) (v :: vs) B3 H3 ⟨x, ys, rfl, r1, r2⟩ (l2.trans l3) b3 (.cons (hv.mono l3.b) hs)
theorem eb_lst {ts : TA} {Rr : List PyData → Prop} (h : EbA K g ts σ B H Rr) (hz : ∀ ds, Rr ds → ds.length ≤ sizeLine) : Eb K g (tLst ts) σ B H (fun d => ∃ ds, d = .list ds ∧ Rr ds) := fun B1 H1 l b Q q =>
  h B1 H1 l b _ fun ds vs B2 H2 r l2 b2 hs => ⟨by rw [hs.length]; exact hz ds r, fun p hp => q (.list ds) (.ref p) _ _ ⟨ds, rfl, r⟩ (l2.trans (Le.new l2.h hp)) (b2.pure (Le.new l2.h hp)) (.lst upd_same (hs.mono (Le.new (M := []) l2.h hp).b))⟩
theorem eb_tup {ts : TA} {Rr : List PyData → Prop} (h : EbA K g ts σ B H Rr) (hz : ∀ ds, Rr ds → ds.length ≤ sizeLine) : Eb K g (tTup ts) σ B H (fun d => ∃ ds, d = .tuple ds ∧ Rr ds) := fun B1 H1 l b Q q =>
  h B1 H1 l b _ fun ds vs B2 H2 r l2 b2 hs => ⟨by rw [hs.length]; exact hz ds r, fun p hp => q (.tuple ds) (.ref p) _ _ ⟨ds, rfl, r⟩ (l2.trans (Le.new l2.h hp)) (b2.pure (Le.new l2.h hp)) (.tup (.inl (.inl upd_same)) (hs.mono (Le.new (M := []) l2.h hp).b))⟩
theorem eb_call {Pre : List PyData → Prop} {Post : List PyData → PyData → Prop} {E : XK} {i : Nat} {ts : TA} {Rr : List PyData → Prop} (hb : σ[i]? = some (some (.ref g))) (h : EbA K g ts σ B H Rr) (hp : ∀ ds, Rr ds → Pre ds) :
    Eb K g (tCall (Bg K Pre Post) [] E (tCons (tVar i) ts)) σ B H (fun d => ∃ ds, Rr ds ∧ Post ds d) := fun B1 H1 l b Q q => by
  refine ⟨.ref g, hb, ?_⟩
  refine h B1 H1 l b _ fun ds vs B2 H2 r l2 b2 hs => ⟨g, vs, B2, ds, by rw [List.append_nil], l2.h, b2, hs, hp ds r, fun d pd v B3 H3 l3 b3 hv => ?_⟩
  exact q d v B3 H3 ⟨ds, r, pd⟩ (l2.trans l3) b3 hv
theorem eb_sl {rr : V → Option Int → Option Int → Hp → VK → Prop} {P : Int → Prop} (h : Eb K g ta σ B H R1) (h2 : Eb K g tb σ B H (RI P)) (hr : ∀ x i, R1 x → P i → ∃ z, RS K rr x none (some i) z ∧ R z) : Eb K g (tSl rr ta tNoPart (tPart tb)) σ B H R := fun B1 H1 l b Q q =>
  h B1 H1 l b _ fun x v B2 H2 r1 l2 b2 hv => h2 B2 H2 (l.trans l2) b2 _ fun y w B3 H3 r2 l3 b3 hw => by
    obtain ⟨i, rfl, hi⟩ := r2
    cases hw
    obtain ⟨z, rs, rz⟩ := hr x i r1 hi
    exact ⟨i, rfl, rs B3 H3 v l3.h (hv.mono l3.b) Q fun o B4 H4 l4 ho => q z o B4 H4 rz ((l2.trans l3).trans l4.any) (b3.pure l4) ho⟩
theorem ebt_test {P : Bool → Prop} (h : Eb K g te σ B H (fun d => ∃ k, d = .bool k ∧ P k)) : EbT g (tTest te) σ B H P := fun B1 H1 l b Q q => h B1 H1 l b _ fun d v B2 H2 r l2 b2 hv => by
  obtain ⟨k, rfl, p⟩ := r
  cases hv
  exact ⟨k, rfl, q k B2 H2 p l2 b2⟩
theorem ebt_and {P1 P2 P : Bool → Prop} (h1 : EbT g t σ B H P1) (h2 : P1 true → EbT g u σ B H P2) (hf : P1 false → P false) (ht : ∀ k, P2 k → P k) : EbT g (tAnd t u) σ B H P := fun B1 H1 l b Q q => h1 B1 H1 l b _ fun k B2 H2 p l2 b2 => by
  cases k with
  | true => exact h2 p B2 H2 (l.trans l2) b2 _ fun j B3 H3 pj l3 b3 => q j B3 H3 (ht j pj) (l2.trans l3) b3
  | false => exact q false B2 H2 (hf p) l2 b2
/-! statements -/
variable {D : Ends} {tu tw tz : TS}
theorem b_set {i : Nat} (h : Eb K g te σ B H R) (e : Ex B H) (b : Bag g B H) (q : ∀ d v B' H', R d → Le [g] B H B' H' → Bag g B' H' → Dq K B' v d → tz D (σ.set i (some v)) H') : tSeq (tAsg te (gName i)) tz D σ H := h B H (Le.refl e) b _ q
theorem b_ret (h : Eb K g te σ B H R) (e : Ex B H) (b : Bag g B H) (q : ∀ d v B' H', R d → Le [g] B H B' H' → Bag g B' H' → Dq K B' v d → D.rt v H') : tRet te D σ H := h B H (Le.refl e) b _ q
/-- a number below n, from the bag -/
abbrev PickS (K : PySem.W.Frag) : Sp := Bg K (fun ds => ∃ n : Int, ds = [.int n] ∧ 0 < n ∧ n < 1073741824) fun ds d => ∃ n r : Int, ds = [.int n] ∧ d = .int r ∧ 0 ≤ r ∧ r < n
theorem eb_pick {E : XK} {i : Nat} {P : Int → Prop} (hb : σ[i]? = some (some (.ref g))) (h : Eb K g te σ B H (RI P)) (hp : ∀ n, P n → 0 < n ∧ n < 1073741824) : Eb K g (tCall (PickS K) [] E (tCons (tVar i) (tCons te tNil))) σ B H (RI fun r => ∃ n, P n ∧ 0 ≤ r ∧ r < n) :=
  (eb_call hb (eba_cons h eba_nil) fun ds r => by
    obtain ⟨d, r, rfl, ⟨n, rfl, pn⟩, rfl⟩ := r
    exact ⟨n, rfl, hp n pn⟩).imp fun d h => by
      obtain ⟨ds, ⟨x, r, rfl, ⟨n, rfl, pn⟩, rfl⟩, m, r, e, rfl, h1, h2⟩ := h
      cases e
      exact ⟨r, rfl, n, pn, h1, h2⟩
theorem eb_pickC {E : XK} {i : Nat} {n : Int} (hb : σ[i]? = some (some (.ref g))) (h : ∀ B1 H1, Le [g] B H B1 H1 → Ev K te σ B1 H1 (.int n)) (h0 : 0 < n) (h1 : n < 1073741824) : Eb K g (tCall (PickS K) [] E (tCons (tVar i) (tCons te tNil))) σ B H (RI fun r => 0 ≤ r ∧ r < n) :=
  (eb_pick (P := (· = n)) hb ((eb_of h).imp fun d e => ⟨n, e, rfl⟩) fun m e => by subst e; exact ⟨h0, h1⟩).imp fun d h => by
    obtain ⟨r, rfl, m, rfl, h1, h2⟩ := h
    exact ⟨r, rfl, h1, h2⟩
theorem ei_of {i : Int} (h : ∀ B1 H1, Le [g] B H B1 H1 → Ev K te σ B1 H1 (.int i)) : Eb K g te σ B H (RI (· = i)) := (eb_of h).imp fun d e => ⟨i, e, rfl⟩
theorem ei_op {r : R2} {f : Int → Int → Int} {P1 P2 P : Int → Prop} (ha : Eb K g ta σ B H (RI P1)) (hb : Eb K g tb σ B H (RI P2)) (hr : ∀ i j, P1 i → P2 j → RV K r (.int i) (.int j) (.int (f i j)) ∧ P (f i j)) : Eb K g (tOp r ta tb) σ B H (RI P) :=
  eb_op ha hb fun x y h1 h2 => by
    obtain ⟨i, rfl, p1⟩ := h1
    obtain ⟨j, rfl, p2⟩ := h2
    exact ⟨_, (hr i j p1 p2).1, _, rfl, (hr i j p1 p2).2⟩
theorem bg_len {Pre : List PyData → Prop} {Post : List PyData → PyData → Prop} {n : Nat} (hn : ∀ ds, Pre ds → ds.length = n) (vs : List V) (H : Hp) (Q : VK) (E : XK) (h : Bg K Pre Post vs H Q E) : vs.length = n + 1 := by
  obtain ⟨g, us, B, ds, rfl, _, _, h1, h2, _⟩ := h
  rw [List.length_cons, h1.length, hn ds h2]
end
section
variable {K : PySem.W.Frag} {g p : Addr} {σ : L2.St} {B H : Hp}
theorem ix_own {xs : List V} {i : Int} {v : V} {Q : VK} (h : H p = some (.lst xs)) (hv : atI xs i = some v) (q : Q v H) : rIx K (.ref p) (.int i) H Q := .inl (by
  exact ⟨p, xs, i, v, rfl, rfl, .inl (.inl h), hv, q⟩)
theorem idx_nat {r : Int} {n : Nat} (h0 : 0 ≤ r) (h1 : r < n) : seqIndex? r n = some r.toNat := by
  have h := (ixN_seq (n := n) (i := r) (j := r.toNat) (by unfold ixN; rw [if_pos h0, if_pos (by omega)])).1
  exact h
theorem yes_i {F : Bool → Hp → Prop} (h : F true H) : tYes σ H F := h
theorem erase_mapM {α β : Type} (f : α → β) : ∀ (l : List α) (j : Nat), (l.map f).eraseIdx j = (l.eraseIdx j).map f
  | [], _ => rfl
  | _ :: _, 0 => rfl
  | a :: l, j + 1 => by rw [List.map_cons, List.eraseIdx_cons_succ, List.eraseIdx_cons_succ, List.map_cons, erase_mapM f l j]
theorem erase_permM {α : Type} : ∀ (l : List α) (i : Nat) (y : α), l[i]? = some y → (y :: l.eraseIdx i).Perm l
  | [], i, y, h => by simp at h
  | a :: l, 0, y, h => by
    simp at h
    subst h
    exact .refl _
  | a :: l, i + 1, y, h => by
    rw [List.eraseIdx_cons_succ]
    exact (List.Perm.swap a y _).trans ((erase_permM l i y (by simpa using h)).cons a)
/-- [left.pop(pick(bag, len(left))) for k in range(n)] -/
theorem b_pops {ta : TA} {j a b : Nat} {vs : List Nat} {xs : List Int} {n : Int} {Q : VK} (hta : EvA K ta σ B H [.int n]) (e : Ex B H) (hb : Bag g B H) (hp : B p = none) (hpl : H p = some (.lst (xs.map V.int))) (hpg : p ≠ g)
    (hw : ∀ x, wipe ((wipe σ vs).set j (some x)) vs = wipe σ vs) (ha : ∀ x, ((wipe σ vs).set j (some x))[a]? = some (some (.ref p))) (hbb : ∀ x, ((wipe σ vs).set j (some x))[b]? = some (some (.ref g)))
    (hn0 : 0 ≤ n) (hn : n ≤ xs.length) (hx : xs.length ≤ 1000)
    (q : ∀ (acc rest : List Int) (v : V) B' H', (acc ++ rest).Perm xs → (acc.length : Int) = n → Le [p, g] B H B' H' → Bag g B' H' → Dq K B' v (.list (acc.map PyData.int)) → Q v H') :
    tLc (iRng1 ta) (gName j) tYes (tBM K "list" rPopAt (tVar a) (tCons (tCall (PickS K) [] E0 (tCons (tVar b) (tCons (tCB (rLenA K) (tCons (tVar a) tNil)) tNil))) tNil)) vs σ H Q := by
  refine hta B H (Le.refl e) _ fun us B1 H1 l1 hus => ?_
  obtain ⟨u, rfl, hu⟩ := dq1 hus
  cases hu
  refine ⟨n, rfl, by omega, by omega, fun D hD => ?_⟩
  have hb1 := hb.pure l1
  have hp1 : B1 p = none := l1.own hpl hp
  have hpl1 := l1.k p _ (by simp) hpl
  have hDg := hb1.ne hD
  have hDp : D ≠ p := fun z => by rw [z, hpl1] at hD; cases hD
  have hDb : B1 D = none := by
    cases z : B1 D with
    | none => rfl
    | some o => rw [l1.h D o z] at hD; cases hD
  have hsl : 1000 < sizeLine := by rw [sizeLine_eq]; decide
  refine lc_range (lo := 0) (n := n.toNat) (fun i Hi => ∃ (Bi : Hp) (acc rest : List Int), Le [D, p, g] B1 H1 Bi Hi ∧ Bag g Bi Hi ∧ Bi p = none ∧ Hi p = some (.lst (rest.map V.int)) ∧ Bi D = none ∧ Hi D = some (.lst (acc.map V.int)) ∧ (acc ++ rest).Perm xs ∧ acc.length = i) ?_ ?_ ?_
  · obtain ⟨x, y, z, hg⟩ := hb1.has
    exact ⟨B1, [], xs, Le.made l1.h hD, ⟨hb1.own, x, y, z, by rw [upd_ne (Ne.symm hDg)]; exact hg⟩, hp1, by rw [upd_ne (Ne.symm hDp)]; exact hpl1, hDb, upd_same, .refl _, rfl⟩
  · rintro i Hi hi ⟨Bi, acc, rest, li, bi, pi, pl, di, dl, pm, ln⟩
    have hlen := pm.length_eq
    rw [List.length_append] at hlen
    have hr0 : 0 < rest.length := by omega
    refine ⟨hw _, ?_⟩
    refine yes_i ?_
    rw [if_pos rfl]
    refine ⟨.ref p, ha _, .inl ⟨rfl, _, .inl (.inl pl)⟩, ?_⟩
    refine ⟨.ref g, hbb _, .ref p, ha _, p, rest.map V.int, rfl, .inl (.inl (.inl pl)), ?_⟩
    rw [List.length_map]
    refine ⟨g, [.int rest.length], Bi, [.int rest.length], rfl, li.h, bi, .cons (.int _) .nil, ⟨rest.length, rfl, by omega, by omega⟩, ?_⟩
    rintro d ⟨m, r, em, rfl, r0, r1⟩ v B2 H2 l2 b2 hv
    cases em
    cases hv
    have pl2 := l2.k p _ (by simp [hpg]) pl
    have p2 := l2.own pl pi
    have dl2 := l2.k D _ (by simp [hDg]) dl
    have d2 := l2.own dl di
    have hk : r.toNat < rest.length := by omega
    refine ⟨p, rest.map V.int, r, r.toNat, .int rest[r.toNat], rfl, rfl, pl2, by omega, by omega, by rw [List.length_map]; exact idx_nat r0 r1, by rw [List.getElem?_map, List.getElem?_eq_getElem hk]; rfl, ?_⟩
    refine ⟨acc.map V.int, by rw [upd_ne hDp]; exact dl2, by rw [List.length_map]; omega, B2, acc ++ [rest[r.toNat]], rest.eraseIdx r.toNat, ?_, ?_, p2, ?_, d2, ?_, ?_, by rw [List.length_append, ln]; rfl⟩
    · have q1 : Le [D, p, g] B2 H2 B2 (upd H2 p (.lst ((rest.map V.int).eraseIdx r.toNat))) := Le.put l2.h p2 (by simp)
      have q2 : Le [D, p, g] B2 (upd H2 p (.lst ((rest.map V.int).eraseIdx r.toNat))) B2 (upd (upd H2 p (.lst ((rest.map V.int).eraseIdx r.toNat))) D (.lst (acc.map V.int ++ [.int rest[r.toNat]]))) := Le.put q1.h d2 (by simp)
      exact (li.trans (l2.wk (by simp))).trans (q1.trans q2)
    · obtain ⟨x, y, z, hg⟩ := b2.has
      exact ⟨b2.own, x, y, z, by rw [upd_ne (Ne.symm hDg), upd_ne (Ne.symm hpg)]; exact hg⟩
    · rw [upd_ne (Ne.symm hDp), upd_same, erase_mapM V.int]
    · rw [upd_same, List.map_append]; rfl
    · refine .trans ?_ pm
      rw [List.append_assoc]
      refine List.Perm.append_left acc ?_
      exact erase_permM rest r.toNat _ (List.getElem?_eq_getElem hk)
  · rintro Hi ⟨Bi, acc, rest, li, bi, pi, pl, di, dl, pm, ln⟩
    have lf : Le [p, g] B1 H1 Bi Hi := li.local hD
    have lg := lf.give hD di dl
    refine q acc rest (.ref D) _ Hi pm (by omega) (l1.any.trans lg) ⟨by rw [upd_ne (Ne.symm hDg)]; exact bi.own, bi.has⟩ (.lst upd_same (dqInts _))
end
/-- a new bag -/
def BagS : Sp := fun vs H Q _ => ∃ c : Int, vs = [.int c] ∧ ∀ (p : Addr) (x y z : Int), H p = none → Q (.ref p) (upd H p (.lst [.int x, .int y, .int z]))
/-- the items of a drawn line -/
abbrev ItemsS (K : PySem.W.Frag) : Sp := Bg K (fun ds => ∃ n : Int, ds = [.int n] ∧ 0 ≤ n ∧ n ≤ 60) fun ds d => ∃ (n : Int) (xs : List Int), ds = [.int n] ∧ d = .list (xs.map PyData.int) ∧ (xs.length : Int) = n ∧ xs.Nodup ∧ ∀ k ∈ xs, 0 ≤ k ∧ k < 60
theorem perm_part {acc rest xs : List Int} (h : (acc ++ rest).Perm xs) (hn : xs.Nodup) : acc.Nodup ∧ ∀ k ∈ acc, k ∈ xs :=
  ⟨(List.nodup_append.mp (h.symm.nodup hn)).1, fun k hk => h.mem_iff.mp (List.mem_append_left _ hk)⟩
def ints60 : List Int := (List.range 60).map fun (i : Nat) => (i : Int)
theorem ite_b {k : Bool} {F G : Prop} (h1 : k = true → F) (h2 : k = false → G) : if k = true then F else G := by
  cases k with
  | true => rw [if_pos rfl]; exact h1 rfl
  | false => rw [if_neg (by decide)]; exact h2 rfl
theorem rgV60 : rgV 0 60 = ints60.map V.int := by decide +kernel
theorem ints60_nd : ints60.Nodup := by decide +kernel
theorem ints60_in : ∀ k ∈ ints60, 0 ≤ k ∧ k < 60 := by decide +kernel
end MA

set_option maxRecDepth 100000
set_option maxHeartbeats 2000000
namespace MA
open PySem PySem.Spec PyProof.Rows L2
/-! ## drawn scripts -/
def GoodC (xs : List Int) (c : PyData) : Prop := ∃ (w : PySem.Str) (i j : Int), c = .tuple [.str w, .int i, .int j] ∧ (w = "behind" ∨ w = "before") ∧ i ∈ xs ∧ j ∈ xs ∧ i ≠ j
abbrev ScriptS (K : PySem.W.Frag) : Sp := Bg K (fun ds => ∃ (xs : List Int) (m : Int), ds = [.list (xs.map PyData.int), .int m] ∧ 2 ≤ xs.length ∧ xs.length ≤ 60 ∧ xs.Nodup ∧ 1 ≤ m ∧ m ≤ 1000)
  fun ds d => ∃ (xs : List Int) (m : Int) (cs : List PyData), ds = [.list (xs.map PyData.int), .int m] ∧ d = .tuple cs ∧ 1 ≤ cs.length ∧ (cs.length : Int) ≤ m ∧ ∀ c ∈ cs, GoodC xs c
abbrev CaseS (K : PySem.W.Frag) : Sp := Bg K (fun ds => ∃ (m l : Int), ds = [.int m, .int l] ∧ 2 ≤ m ∧ m ≤ 60 ∧ 1 ≤ l ∧ l ≤ 1000)
  fun ds d => ∃ (m l : Int) (xs : List Int) (cs : List PyData), ds = [.int m, .int l] ∧ d = .tuple [.tuple (xs.map PyData.int), .tuple cs] ∧ 2 ≤ xs.length ∧ (xs.length : Int) ≤ m ∧ xs.Nodup ∧ (∀ k ∈ xs, 0 ≤ k ∧ k < 60) ∧ 1 ≤ cs.length ∧ (cs.length : Int) ≤ l ∧ ∀ c ∈ cs, GoodC xs c
/-- some of the items -/
structure SomeL (xs ss : List Int) : Prop where
  two : 2 ≤ ss.length
  small : ss.length ≤ 60
  nd : ss.Nodup
  sub : ∀ k ∈ ss, k ∈ xs
theorem SomeL.take {xs ss : List Int} (h : SomeL xs ss) {i : Int} (hi : 2 ≤ i) : SomeL xs (ss.take i.toNat) :=
  ⟨by rw [List.length_take]; have := h.two; omega, by rw [List.length_take]; have := h.small; omega, h.nd.sublist (List.take_sublist _ _), fun k hk => h.sub k (List.mem_of_mem_take hk)⟩
theorem cut_ints (ss : List Int) {i : Int} (hi : 0 ≤ i) : cutG (ss.map PyData.int) none (some i) = (ss.take i.toNat).map PyData.int := by
  have := cut_to (ss.map PyData.int) i.toNat
  rw [show ((i.toNat : Nat) : Int) = i by omega] at this
  rw [this, List.map_take]
theorem nd_get {ss : List Int} (h : ss.Nodup) {i j : Nat} {a b : Int} (hi : ss[i]? = some a) (hj : ss[j]? = some b) (hne : i ≠ j) : a ≠ b := fun e => by
  subst e
  obtain ⟨h1, e1⟩ := List.getElem?_eq_some_iff.mp hi
  obtain ⟨h2, e2⟩ := List.getElem?_eq_some_iff.mp hj
  rw [List.nodup_iff_pairwise_ne, List.pairwise_iff_getElem] at h
  rcases Nat.lt_or_gt_of_ne hne with z | z
  · exact h i j h1 h2 z (by rw [e1, e2])
  · exact h j i h2 h1 z (by rw [e1, e2])
theorem round_ne {a r n : Int} (h0 : 0 ≤ a) (h1 : a < n) (h2 : 0 ≤ r) (h3 : r < n - 1) : (a + 1 + r) % n ≠ a := by
  by_cases z : a + 1 + r < n
  · rw [Int.emod_eq_of_lt (by omega) z]; omega
  · have h := Int.add_mul_emod_self_left (a + 1 + r - n) n 1
    rw [Int.mul_one, show a + 1 + r - n + n = a + 1 + r by omega] at h
    have h4 : (a + 1 + r - n) % n = a + 1 + r - n := Int.emod_eq_of_lt (by omega) (by omega)
    rw [h, h4]
    omega
theorem next_ne {k n : Int} (h0 : 0 ≤ k) (h1 : 2 ≤ n) : k % n ≠ (k + 1) % n := by
  have e : (k + 1) % n = (k % n + 1 + 0) % n := by rw [Int.add_zero, Int.emod_add_emod]
  rw [e]
  exact (round_ne (Int.emod_nonneg _ (by omega)) (Int.emod_lt_of_pos _ (by omega)) (by omega) (by omega)).symm
def rInt1 : List V → Hp → VK → Prop := fun xs H Q => (∃ i, xs = [.int i] ∧ Q (.int i) H) ∨ ∃ k, xs = [.bl k] ∧ Q (.int (if k then 1 else 0)) H
section
variable {K : PySem.W.Frag} {g p : Addr} {σ : L2.St} {B H : Hp} {ta tb te : TE} {t u : TT} {d : PyData} {R R1 Rb : PyData → Prop} {D : Ends} {tu tw tz : TS}
theorem rc_int1 {k : Bool} : RC K rInt1 [.bool k] (.int (if k then 1 else 0)) := fun B H vs e hvs Q q => by
  obtain ⟨v, rfl, hv⟩ := dq1 hvs
  cases hv
  exact .inr ⟨k, rfl, q _ B H (Le.refl e) (.int _)⟩
/-- an if without else that keeps a word of the slots -/
theorem q_whenS {k : Bool} (I : L2.St → Hp → Prop) (h : EvT t σ B H k) (e : Ex B H) (h1 : k = true → ∀ B' H', Le [] B H B' H' → ∀ N : L2.St → Hp → Prop, (∀ σ' B2 H2, Le [] B' H' B2 H2 → I σ' B2 → N σ' H2) → tu { D with nx := N } σ H') (h2 : k = false → ∀ B' H', Le [] B H B' H' → I σ B')
    (hz : ∀ σ' B' H', Le [] B H B' H' → I σ' B' → tz D σ' H') : tSeq (tIfS t tu tNext) tz D σ H :=
  q_when h e (fun hk B' H' l => h1 hk B' H' l _ fun σ' B2 H2 l2 i => hz σ' B2 H2 (l.trans l2) i) fun hk B' H' l => hz σ B' H' l (h2 hk B' H' l)
theorem b_if {P : Bool → Prop} (h : EbT g t σ B H P) (e : Ex B H) (b : Bag g B H) (h1 : P true → ∀ B' H', Le [g] B H B' H' → Bag g B' H' → tu D σ H') (h2 : P false → ∀ B' H', Le [g] B H B' H' → Bag g B' H' → tw D σ H') : tIfS t tu tw D σ H := h B H (Le.refl e) b _ fun k B' H' pk l b' => by
  cases k with
  | true => exact h1 pk B' H' l b'
  | false => exact h2 pk B' H' l b'
/-- p.append(..), p a list of ours -/
theorem b_append {i : Nat} {vs : List V} (hi : σ[i]? = some (some (.ref p))) (h : Eb K g te σ B H R) (e : Ex B H) (b : Bag g B H) (hp : B p = none) (hpl : H p = some (.lst vs)) (hpg : p ≠ g) (hz : vs.length < 100000)
    (q : ∀ d v B' H', R d → Le [p, g] B H B' H' → Bag g B' H' → B' p = none → H' p = some (.lst (vs ++ [v])) → Dq K B' v d → D.nx σ H') : tDrop (tBM K "list" rAppend (tVar i) (tCons te tNil)) D σ H := by
  refine ⟨.ref p, hi, .inl ⟨rfl, vs, .inl (.inl hpl)⟩, ?_⟩
  refine h B H (Le.refl e) b _ fun d v B' H' r l b' hv => ?_
  have hp' := l.own hpl hp
  have hpl' := l.k p _ (by simp [hpg]) hpl
  have hsl : 100000 < sizeLine := by rw [sizeLine_eq]; decide
  refine ⟨p, vs, v, rfl, rfl, hpl', by omega, ?_⟩
  have l2 : Le [p, g] B' H' B' (upd H' p (.lst (vs ++ [v]))) := Le.put l.h hp' (by simp)
  obtain ⟨x, y, z, hg⟩ := b'.has
  exact q d v B' _ r ((l.wk (by simp)).trans l2) ⟨b'.own, x, y, z, by rw [upd_ne (Ne.symm hpg)]; exact hg⟩ hp' upd_same hv
/-- what is read of a list of ours -/
theorem ev_own {vs : List V} {cs : List PyData} (h : ∀ B1, B1 p = some (.lst vs) → Dq K B1 (.ref p) (.list cs) → Ex B1 H → (∀ a o, B a = some o → B1 a = some o) → Ev K te σ B1 H d) (hq : DqAll K B vs cs) (e : Ex B H) (hp : B p = none) (hpl : H p = some (.lst vs)) (sc : ∀ {H1 H2 : Hp} {v : V}, Dq K H1 v d → Dq K H2 v d) : Ev K te σ B H d :=
  Ev.own (h (upd B p (.lst vs)) upd_same (.lst upd_same (hq.mono (Evl.Ex.new hp))) (ex_give e hpl) (Evl.Ex.new hp)) hpl hp sc
theorem sc_int {i : Int} : ∀ {H1 H2 : Hp} {v : V}, Dq K H1 v (.int i) → Dq K H2 v (.int i) := fun h => by cases h; exact .int _
theorem sc_bool {i : Bool} : ∀ {H1 H2 : Hp} {v : V}, Dq K H1 v (.bool i) → Dq K H2 v (.bool i) := fun h => by cases h; exact .bl _
theorem q_asgR {i : Nat} (h : te σ H fun v H' => tz D (σ.set i (some v)) H') : tSeq (tAsg te (gName i)) tz D σ H := h
end
end MA

set_option maxRecDepth 100000
set_option maxHeartbeats 2000000
namespace MA
open PySem PySem.Spec PyProof.Rows L2

/-! ## small plain data: what repr needs -/
structure Sm (k w : Nat) (d : PyData) : Prop where
  sh : d.showable = true
  lf : d.leavesShort 30 = true
  wt : d.weight ≤ w
  dp : d.depth ≤ k
def Pl (k w : Nat) (d : PyData) : Prop := Sm k w d ∧ noList d = true ∧ d.hasDict = false
def Od (k w : Nat) (d : PyData) : Prop := Sm k w d ∧ (d.hasDict = false ∨ noList d = true)
theorem Sm.mono {k w k' w' : Nat} {d : PyData} (h : Sm k w d) (hk : k ≤ k') (hw : w ≤ w') : Sm k' w' d := ⟨h.sh, h.lf, Nat.le_trans h.wt hw, Nat.le_trans h.dp hk⟩
theorem Pl.mono {k w k' w' : Nat} {d : PyData} (h : Pl k w d) (hk : k ≤ k') (hw : w ≤ w') : Pl k' w' d := ⟨h.1.mono hk hw, h.2⟩
theorem Od.mono {k w k' w' : Nat} {d : PyData} (h : Od k w d) (hk : k ≤ k') (hw : w ≤ w') : Od k' w' d := ⟨h.1.mono hk hw, h.2⟩
theorem Pl.od {k w : Nat} {d : PyData} (h : Pl k w d) : Od k w d := ⟨h.1, .inl h.2.2⟩
section
variable {k w W : Nat}
theorem all_sh : ∀ {xs : List PyData}, (∀ x ∈ xs, x.showable = true) → PyData.showableAll xs = true
  | [], _ => by simp [PyData.showableAll]
  | x :: xs, h => by simp only [PyData.showableAll, h x (List.mem_cons_self ..), all_sh fun y hy => h y (List.mem_cons_of_mem _ hy), Bool.and_self]
theorem all_lf : ∀ {xs : List PyData}, (∀ x ∈ xs, x.leavesShort 30 = true) → PyData.leavesShortAll 30 xs = true
  | [], _ => by simp [PyData.leavesShortAll]
  | x :: xs, h => by simp only [PyData.leavesShortAll, h x (List.mem_cons_self ..), all_lf fun y hy => h y (List.mem_cons_of_mem _ hy), Bool.and_self]
theorem all_wt : ∀ {xs : List PyData}, (∀ x ∈ xs, x.weight ≤ w) → PyData.weightAll xs ≤ xs.length * (w + 1)
  | [], _ => by simp [PyData.weightAll]
  | x :: xs, h => by
    have h1 := h x (List.mem_cons_self ..)
    have h2 := all_wt fun y hy => h y (List.mem_cons_of_mem x hy)
    simp only [PyData.weightAll, List.length_cons, Nat.add_mul, Nat.one_mul]
    omega
theorem all_dp : ∀ {xs : List PyData}, (∀ x ∈ xs, x.depth ≤ k) → PyData.depthAll xs ≤ k
  | [], _ => by simp [PyData.depthAll]
  | x :: xs, h => by
    have h1 := h x (List.mem_cons_self ..)
    have h2 := all_dp fun y hy => h y (List.mem_cons_of_mem x hy)
    simp only [PyData.depthAll]
    omega
theorem all_nl : ∀ {xs : List PyData}, (∀ x ∈ xs, noList x = true) → noListAll xs = true
  | [], _ => by simp [noListAll]
  | x :: xs, h => by simp only [noListAll, h x (List.mem_cons_self ..), all_nl fun y hy => h y (List.mem_cons_of_mem _ hy), Bool.and_self]
theorem all_nd : ∀ {xs : List PyData}, (∀ x ∈ xs, x.hasDict = false) → PyData.hasDictAll xs = false
  | [], _ => by simp [PyData.hasDictAll]
  | x :: xs, h => by simp only [PyData.hasDictAll, h x (List.mem_cons_self ..), all_nd fun y hy => h y (List.mem_cons_of_mem _ hy), Bool.or_self]
theorem Sm.tup {xs : List PyData} (h : ∀ x ∈ xs, Sm k w x) (hW : xs.length * (w + 1) ≤ W) : Sm (k + 1) W (.tuple xs) :=
  ⟨by simpa only [PyData.showable] using all_sh fun x hx => (h x hx).sh, by simpa only [PyData.leavesShort] using all_lf fun x hx => (h x hx).lf,
    by simp only [PyData.weight]; exact Nat.le_trans (all_wt fun x hx => (h x hx).wt) hW, by simp only [PyData.depth]; exact Nat.succ_le_succ (all_dp fun x hx => (h x hx).dp)⟩
theorem Sm.lst {xs : List PyData} (h : ∀ x ∈ xs, Sm k w x) (hW : xs.length * (w + 1) ≤ W) : Sm (k + 1) W (.list xs) :=
  ⟨by simpa only [PyData.showable] using all_sh fun x hx => (h x hx).sh, by simpa only [PyData.leavesShort] using all_lf fun x hx => (h x hx).lf,
    by simp only [PyData.weight]; exact Nat.le_trans (all_wt fun x hx => (h x hx).wt) hW, by simp only [PyData.depth]; exact Nat.succ_le_succ (all_dp fun x hx => (h x hx).dp)⟩
theorem len_mul {n m : Nat} (h : n ≤ m) (hW : m * (w + 1) ≤ W) : n * (w + 1) ≤ W := Nat.le_trans (Nat.mul_le_mul_right _ h) hW
theorem Pl.tup {xs : List PyData} (h : ∀ x ∈ xs, Pl k w x) (hW : xs.length * (w + 1) ≤ W) : Pl (k + 1) W (.tuple xs) :=
  ⟨.tup (fun x hx => (h x hx).1) hW, by simp only [noList]; exact all_nl fun x hx => (h x hx).2.1, by simp only [PyData.hasDict]; exact all_nd fun x hx => (h x hx).2.2⟩
theorem Od.lst {xs : List PyData} (h : ∀ x ∈ xs, Pl k w x) (hW : xs.length * (w + 1) ≤ W) : Od (k + 1) W (.list xs) :=
  ⟨.lst (fun x hx => (h x hx).1) hW, .inl (by simp only [PyData.hasDict]; exact all_nd fun x hx => (h x hx).2.2)⟩
/-- one odd value among plain ones -/
theorem Od.tup {o : PyData} {xs : List PyData} (ho : Od k w o) (h : ∀ x ∈ xs, x = o ∨ Pl k w x) (hW : xs.length * (w + 1) ≤ W) : Od (k + 1) W (.tuple xs) := by
  have hs : ∀ x ∈ xs, Sm k w x := fun x hx => (h x hx).elim (fun e => e ▸ ho.1) fun p => p.1
  refine ⟨.tup hs hW, ?_⟩
  rcases ho.2 with z | z
  · exact .inl (by simp only [PyData.hasDict]; exact all_nd fun x hx => (h x hx).elim (fun e => e ▸ z) fun p => p.2.2)
  · exact .inr (by simp only [noList]; exact all_nl fun x hx => (h x hx).elim (fun e => e ▸ z) fun p => p.2.1)
end
/-! atoms -/
def plB (d : PyData) : Bool := d.showable && d.leavesShort 30 && decide (d.weight ≤ 70) && decide (d.depth ≤ 0) && noList d && !d.hasDict
theorem pl_of {d : PyData} (h : plB d = true) : Pl 0 70 d := by
  simp only [plB, Bool.and_eq_true, decide_eq_true_eq, Bool.not_eq_true'] at h
  exact ⟨⟨h.1.1.1.1.1, h.1.1.1.1.2, h.1.1.1.2, h.1.1.2⟩, h.1.2, h.2⟩
theorem pl_items : ∀ i ∈ ints60, plB (.int i) = true := by decide +kernel
theorem pl_int {i : Int} (h0 : 0 ≤ i) (h1 : i < 60) : Pl 0 70 (.int i) := by
  refine pl_of (pl_items i ?_)
  unfold ints60
  exact List.mem_map.mpr ⟨i.toNat, List.mem_range.mpr (by omega), by omega⟩
theorem pl_word {x : PySem.Str} (h : x = "behind" ∨ x = "before") : Pl 0 70 (.str x) := by
  rcases h with rfl | rfl <;> exact pl_of (by decide +kernel)
/-- what the law shows -/
def Ov (d : PyData) : Prop := Od 6 400000 d ∧ tlen d ≤ 1000
theorem Ov.repr {d : PyData} (h : Ov d) : d.showable = true ∧ (d.hasDict = false ∨ noList d = true) ∧ d.shown.length ≤ sizeLine ∧ d.depth ≤ 60 := by
  refine ⟨h.1.1.sh, h.1.2, ?_, Nat.le_trans h.1.1.dp (by decide)⟩
  have h1 := PyData.shown_le 30 (by decide) d h.1.1.lf
  have h2 := h.1.1.wt
  rw [sizeLine_eq]
  omega
/-! ## values of which something holds -/
section
variable (K : PySem.W.Frag)
def EvV (te : TE) (σ : L2.St) (B H : Hp) (P : PyData → Prop) : Prop := ∃ d, Ev K te σ B H d ∧ P d
def EaV (ta : TA) (σ : L2.St) (B H : Hp) (P : PyData → Prop) (n : Nat) : Prop := ∃ ds, EvA K ta σ B H ds ∧ (∀ d ∈ ds, P d) ∧ ds.length = n
def EvC (c : List PyData → PyData) (te : TE) (σ : L2.St) (B H : Hp) (P : PyData → Prop) (n : Nat) : Prop := ∃ ds, Ev K te σ B H (c ds) ∧ (∀ d ∈ ds, P d) ∧ ds.length ≤ n
end
section
variable {K : PySem.W.Frag} {σ : L2.St} {B H : Hp} {te ta tb : TE} {P : PyData → Prop} {n m : Nat}
theorem vv (h : Ev K te σ B H d) (hp : P d) : EvV K te σ B H P := ⟨d, h, hp⟩
theorem va_nil : EaV K tNil σ B H P 0 := ⟨[], ea_nil, by simp, rfl⟩
theorem va_cons {tr : TA} (h : EvV K te σ B H P) (hr : EaV K tr σ B H P n) : EaV K (tCons te tr) σ B H P (n + 1) := by
  obtain ⟨d, h1, h2⟩ := h
  obtain ⟨ds, h3, h4, h5⟩ := hr
  exact ⟨d :: ds, ea_cons h1 h3, fun x hx => (List.mem_cons.mp hx).elim (fun e => e ▸ h2) (h4 x), by rw [List.length_cons, h5]⟩
theorem vc_lst {ts : TA} (h : EaV K ts σ B H P n) (hz : n ≤ sizeLine) : EvC K .list (tLst ts) σ B H P n := by
  obtain ⟨ds, h1, h2, h3⟩ := h
  exact ⟨ds, ev_lst h1 (by omega), h2, by omega⟩
theorem vc_tup {ts : TA} (h : EaV K ts σ B H P n) (hz : n ≤ sizeLine) : EvC K .tuple (tTup ts) σ B H P n := by
  obtain ⟨ds, h1, h2, h3⟩ := h
  exact ⟨ds, ev_tup h1 (by omega), h2, by omega⟩
theorem vc_addL (h1 : EvC K .list ta σ B H P n) (h2 : EvC K .list tb σ B H P m) (hz : n + m ≤ sizeLine) : EvC K .list (tOp (rAddA K) ta tb) σ B H P (n + m) := by
  obtain ⟨as, a1, a2, a3⟩ := h1
  obtain ⟨bs, b1, b2, b3⟩ := h2
  exact ⟨as ++ bs, ev_op a1 b1 (rv_addL (by omega)), fun x hx => (List.mem_append.mp hx).elim (a2 x) (b2 x), by rw [List.length_append]; omega⟩
theorem vc_addT (h1 : EvC K .tuple ta σ B H P n) (h2 : EvC K .tuple tb σ B H P m) (hz : n + m ≤ sizeLine) : EvC K .tuple (tOp (rAddA K) ta tb) σ B H P (n + m) := by
  obtain ⟨as, a1, a2, a3⟩ := h1
  obtain ⟨bs, b1, b2, b3⟩ := h2
  exact ⟨as ++ bs, ev_op a1 b1 (rv_addT (by omega)), fun x hx => (List.mem_append.mp hx).elim (a2 x) (b2 x), by rw [List.length_append]; omega⟩
theorem mem_cut {α : Type} {xs : List α} {lo hi : Option Int} {x : α} (h : x ∈ cutG xs lo hi) : x ∈ xs := List.mem_of_mem_drop (List.mem_of_mem_take h)
theorem len_cut {α : Type} (xs : List α) (lo hi : Option Int) : (cutG xs lo hi).length ≤ xs.length := by
  unfold cutG
  rw [List.length_take, List.length_drop]
  omega
theorem vc_sl {tl th : TO} {lo hi : Option Int} (h : EvC K .tuple te σ B H P n) (h1 : EvO tl σ B H lo) (h2 : EvO th σ B H hi) : EvC K .tuple (tSl (rSlAny K) te tl th) σ B H P n := by
  obtain ⟨as, a1, a2, a3⟩ := h
  exact ⟨_, ev_sl a1 h1 h2 rs_T, fun x hx => a2 x (mem_cut hx), Nat.le_trans (len_cut _ _ _) a3⟩
theorem vc_back (h : EvC K .tuple te σ B H P n) : EvC K .tuple (tBack K te) σ B H P n := by
  obtain ⟨as, a1, a2, a3⟩ := h
  exact ⟨_, ev_back a1, fun x hx => a2 x (List.mem_reverse.mp hx), by rw [List.length_reverse]; exact a3⟩
theorem vc_mul {k : Int} {xs : List PyData} (a1 : Ev K te σ B H (.tuple xs)) (h0 : xs ≠ []) (a2 : ∀ x ∈ xs, P x) (h1 : xs.length ≤ 1) (h2 : 2 ≤ k) (h3 : k ≤ 1000) : EvC K .tuple (tOp (rMulA K) te (tC (.int k))) σ B H P k.toNat := by
  refine ⟨_, ev_op a1 ev_i (rv_mulT h0 h2 h3 (by omega)), fun x hx => ?_, ?_⟩
  · obtain ⟨l, hl, hx⟩ := List.mem_flatten.mp hx
    rw [List.eq_of_mem_replicate hl] at hx
    exact a2 x hx
  · rw [List.length_flatten, List.map_replicate, List.sum_replicate_nat]
    have := Nat.mul_le_mul_left k.toNat h1
    omega
theorem vc_lstT (h : EvC K .tuple te σ B H P n) : EvC K .list (tCB (rLstA K) (tCons te tNil)) σ B H P n := by
  obtain ⟨as, a1, a2, a3⟩ := h
  exact ⟨as, ev_cb (ea_cons a1 ea_nil) rc_lstT, a2, a3⟩
theorem vc_val {c : List PyData → PyData} {R : PyData → Prop} (h : EvC K c te σ B H P n) (hr : ∀ ds, (∀ d ∈ ds, P d) → ds.length ≤ n → R (c ds)) : EvV K te σ B H R := by
  obtain ⟨ds, h1, h2, h3⟩ := h
  exact ⟨_, h1, hr ds h2 h3⟩
theorem vc_var {c : List PyData → PyData} {ds : List PyData} {i : Nat} {v : V} (h : σ[i]? = some (some v)) (hd : Dq K B v (c ds)) (h2 : ∀ d ∈ ds, P d) (h3 : ds.length ≤ n) : EvC K c (tVar i) σ B H P n := ⟨ds, ev_var h hd, h2, h3⟩
theorem vc_imp {c : List PyData → PyData} {R : PyData → Prop} (h : EvC K c te σ B H P n) (hr : ∀ d, P d → R d) : EvC K c te σ B H R n := by
  obtain ⟨ds, h1, h2, h3⟩ := h
  exact ⟨ds, h1, fun d hd => hr d (h2 d hd), h3⟩
theorem q_setC {c : List PyData → PyData} {D : Ends} {tz : TS} {i : Nat} (h : EvC K c te σ B H P n) (e : Ex B H) (q : ∀ ds v B' H', (∀ d ∈ ds, P d) → ds.length ≤ n → Le [] B H B' H' → Dq K B' v (c ds) → tz D (σ.set i (some v)) H') : tSeq (tAsg te (gName i)) tz D σ H := by
  obtain ⟨ds, h1, h2, h3⟩ := h
  exact q_set h1 e fun v B' H' l hv => q ds v B' H' h2 h3 l hv
theorem s_retC {c : List PyData → PyData} {D : Ends} (h : EvC K c te σ B H P n) (e : Ex B H) (q : ∀ ds v B' H', (∀ d ∈ ds, P d) → ds.length ≤ n → Le [] B H B' H' → Dq K B' v (c ds) → D.rt v H') : tRet te D σ H := by
  obtain ⟨ds, h1, h2, h3⟩ := h
  exact s_ret h1 e fun v B' H' l hv => q ds v B' H' h2 h3 l hv
/-! more expressions -/
theorem ev_neg {i : Int} : Ev K (tUn (rU fun i => .int (-i)) (tC (.int i))) σ B H (.int (-i)) := ev_un ev_i fun B H v e hv Q q => by
  cases hv
  exact ⟨i, rfl, q _ B H (Le.refl e) (.int _)⟩
theorem ev_dict0 : Ev K tDNewK σ B H (.dict []) := fun B1 H1 l Q q p hp => q (.ref p) _ _ (Le.new l.h hp) (by
  have h := Dq.dct (K := K) (H := upd B1 p (.dK [])) (a := p) (kvs := []) (ds := []) upd_same .nil
  exact h)
theorem rc_str {i : Int} (h : i.natAbs.log2 < 1920) : RC K rStrI [.int i] (.str (toString i)) := fun B H vs e hvs Q q => by
  obtain ⟨v, rfl, hv⟩ := dq1 hvs
  cases hv
  exact ⟨i, rfl, h, q _ B H (Le.refl e) (.str _)⟩
theorem ev_bmS {r : V → List V → Hp → VK → Prop} {s : PySem.Str} {ts : TA} {ds : List PyData} {z : PyData} (ho : Ev K te σ B H (.str s)) (ha : EvA K ts σ B H ds) (hr : RM K r (.str s) ds z) : Ev K (tBM K "str" r te ts) σ B H z := fun B1 H1 l Q q =>
  ho B1 H1 l _ fun v B2 H2 l2 hv => ⟨by cases hv; rfl, ha B2 H2 (l.trans l2) _ fun vs B3 H3 l3 hs => hr B3 H3 v vs l3.h (hv.mono l3.b) hs Q fun o B4 H4 l4 ho => q o B4 H4 ((l2.trans l3).trans l4) ho⟩
theorem ev_bm0S {r : V → List V → Hp → VK → Prop} {s : PySem.Str} {z : PyData} (ho : Ev K te σ B H (.str s)) (hr : RM K r (.str s) [] z) : Ev K (tBM0 K "str" r te) σ B H z := fun B1 H1 l Q q =>
  ho B1 H1 l _ fun v B2 H2 l2 hv => ⟨by cases hv; rfl, hr B2 H2 v [] l2.h hv .nil Q fun o B4 H4 l4 ho => q o B4 H4 (l2.trans l4) ho⟩
def rJoinA (K : PySem.W.Frag) : V → List V → Hp → VK → Prop := fun x xs H Q => ∃ a p, ∃ ys : List PySem.Str, x = .str a ∧ xs = [.ref p] ∧ (SqL K H p (ys.map V.str) ∨ SqT K H p (ys.map V.str)) ∧
    (ys.map (·.length)).sum + ys.length * a.length ≤ 16777216 ∧ Q (.str (Txt.join a ys)) H
theorem rm_join {a : PySem.Str} {ys : List PySem.Str} (h : (ys.map (·.length)).sum + ys.length * a.length ≤ 16777216) : RM K (rJoinA K) (.str a) [.list (ys.map PyData.str)] (.str (Txt.join a ys)) := fun B H v vs e hv hvs Q q => by
  cases hv
  obtain ⟨u, rfl, hu⟩ := dq1 hvs
  cases hu with
  | lst h1 q1 =>
    cases ofStrs q1
    exact ⟨a, _, ys, rfl, rfl, .inl (.inl (.inl (e _ _ h1))), h, q _ B H (Le.refl e) (.str _)⟩
def rUpA : V → List V → Hp → VK → Prop := fun x xs H Q => ∃ a, x = .str a ∧ xs = [] ∧ a.length ≤ 5592405 ∧ Q (.str (Txt.upper a)) H
theorem rm_up {a : PySem.Str} (h : a.length ≤ 5592405) : RM K rUpA (.str a) [] (.str (Txt.upper a)) := fun B H v vs e hv hvs Q q => by
  cases hv
  cases hvs
  exact ⟨a, rfl, rfl, h, q _ B H (Le.refl e) (.str _)⟩
theorem rgV_nat (n : Nat) : rgV 0 n = ((List.range n).map fun (i : Nat) => (i : Int)).map V.int := by
  unfold rgV
  rw [List.map_map, show ((n : Int) - 0).toNat = n by omega]
  refine List.map_congr_left fun i _ => ?_
  show V.int (0 + (i : Int)) = V.int i
  rw [Int.zero_add]
theorem ev_tupRg {n : Nat} (hn : n ≤ 1000) : Ev K (tTupRg (tRg1 (tC (.int (n : Nat))))) σ B H (.tuple (((List.range n).map fun (i : Nat) => (i : Int)).map PyData.int)) := fun B1 H1 l Q q => by
  refine ⟨(n : Nat), rfl, .of_le (by decide) (by omega) (by decide) (by omega), fun p hp => ?_⟩
  rw [rgV_nat]
  exact q (.ref p) _ _ (Le.new l.h hp) (.tup (.inl (.inl upd_same)) (dqInts _))
def tokB (k : Int) : Bool := decide ((toString k : PySem.Str).length ≤ 2) && (toString k : PySem.Str).cps.toList.all fun c => decide (c < 16 ^ 8)
theorem tok_items : ∀ k ∈ ints60, tokB k = true := by decide +kernel
theorem tok_item {k : Int} (h0 : 0 ≤ k) (h1 : k < 60) : tokB k = true := by
  refine tok_items k ?_
  unfold ints60
  exact List.mem_map.mpr ⟨k.toNat, List.mem_range.mpr (by omega), by omega⟩
/-- a short text of ints: its signs -/
theorem pl_join {ns : List Int} (h : ∀ k ∈ ns, 0 ≤ k ∧ k < 60) (hl : ns.length ≤ 60) : (((ns.map fun k => (toString k : PySem.Str)).map (·.length)).sum + (ns.map fun k => (toString k : PySem.Str)).length * (" " : PySem.Str).length ≤ 16777216) ∧ Pl 0 400 (.str (Txt.join " " (ns.map fun k => (toString k : PySem.Str)))) := by
  have hk : ∀ k ∈ ns, (toString k : PySem.Str).length ≤ 2 ∧ ∀ c ∈ (toString k : PySem.Str).cps.toList, c < 16 ^ 8 := fun k hk => by
    have := tok_item (h k hk).1 (h k hk).2
    simp only [tokB, Bool.and_eq_true, decide_eq_true_eq, List.all_eq_true] at this
    exact this
  have hs : ∀ ms : List Int, (∀ k ∈ ms, (toString k : PySem.Str).length ≤ 2) → ((ms.map fun k => (toString k : PySem.Str)).map (·.length)).sum ≤ 2 * ms.length := by
    intro ms
    induction ms with
    | nil => intro _; exact Nat.le_refl _
    | cons a r ih =>
      intro h
      have h1 := h a (List.mem_cons_self ..)
      have h2 := ih fun k hk => h k (List.mem_cons_of_mem _ hk)
      simp only [List.map_cons, List.sum_cons, List.length_cons] at h2 ⊢
      omega
  have h1 := hs ns fun k hk' => (hk k hk').1
  have h2 : (" " : PySem.Str).length = 1 := by rfl
  have h3 : (ns.map fun k => (toString k : PySem.Str)).length = ns.length := List.length_map ..
  refine ⟨by rw [h2, h3]; omega, ⟨by rfl, ?_, ?_, by show 0 ≤ 0; decide⟩, rfl, rfl⟩
  · rw [TL.join_eq]
    simp only [PyData.leavesShort, List.all_eq_true, decide_eq_true_eq]
    intro c hc
    rcases (PyProof.Rows.mem_join _ c _).mp hc with ⟨t, ht, hc⟩ | ⟨_, hc⟩
    · obtain ⟨k, hk', rfl⟩ := List.mem_map.mp ht
      exact (hk k hk').2 c hc
    · have : ∀ c ∈ (" " : PySem.Str).cps.toList, c < 16 ^ 8 := by decide
      exact this c hc
  · rw [TL.join_eq]
    have := StrLaws.join_length_le " " (ns.map fun k => (toString k : PySem.Str))
    rw [h2, h3] at this
    show (PySem.Str.join " " _).length ≤ 400
    omega
end
/-! odd values and the lists of them -/
def OddV (d : PyData) : Prop := Od 1 70 d ∧ tlen d ≤ 1000
def CmdV (d : PyData) : Prop := Od 2 300 d ∧ tlen d ≤ 1000
theorem odd_of {d : PyData} (h : plB d = true) (ht : tlen d = 0 := by rfl) : OddV d := ⟨(pl_of h).od.mono (by decide) (by decide), by omega⟩
theorem odd_int {i : Int} (h0 : 0 ≤ i) (h1 : i < 60) : OddV (.int i) := ⟨(pl_int h0 h1).od.mono (by decide) (by decide), by show 0 ≤ 1000; decide⟩
theorem odd_t0 : OddV (.tuple []) := ⟨(Pl.tup (k := 0) (w := 0) (W := 70) (xs := []) (by simp) (by decide)).od, by show 0 ≤ 1000; decide⟩
theorem odd_l0 : OddV (.list []) := ⟨Od.lst (k := 0) (w := 0) (W := 70) (xs := []) (by simp) (by decide), by show 0 ≤ 1000; decide⟩
theorem odd_d0 : OddV (.dict []) := ⟨⟨⟨by decide, by decide, by decide, by decide⟩, .inr (by decide)⟩, by show 0 ≤ 1000; decide⟩
theorem OddV.cmd {d : PyData} (h : OddV d) : CmdV d := ⟨h.1.mono (by decide) (by decide), h.2⟩
theorem OddV.ov {d : PyData} (h : OddV d) : Ov d := ⟨h.1.mono (by decide) (by decide), h.2⟩
theorem CmdV.ov {d : PyData} (h : CmdV d) : Ov d := ⟨h.1.mono (by decide) (by decide), h.2⟩
/-- plain, or this odd one -/
def PO (k w : Nat) (o x : PyData) : Prop := x = o ∨ Pl k w x
theorem po_pl {o x : PyData} (h : Pl 0 70 x) : PO 1 70 o x := .inr (h.mono (by decide) (by decide))
theorem ov_tup1 {o : PyData} (ho : OddV o) {ds : List PyData} (h : ∀ d ∈ ds, PO 1 70 o d) {n : Nat} (hn : ds.length ≤ n) (h1 : n ≤ 1000) : Ov (.tuple ds) :=
  ⟨(Od.tup (W := 71000) ho.1 h (len_mul (m := 1000) (by omega) (by decide))).mono (by decide) (by decide), by show ds.length ≤ 1000; omega⟩
theorem cmd_tup1 {o : PyData} (ho : OddV o) {ds : List PyData} (h : ∀ d ∈ ds, PO 1 70 o d) (hn : ds.length ≤ 4) : CmdV (.tuple ds) :=
  ⟨(Od.tup (W := 300) ho.1 h (len_mul (m := 4) hn (by decide))).mono (by decide) (by decide), by show ds.length ≤ 1000; omega⟩
theorem ov_tup2 {o : PyData} (ho : CmdV o) {ds : List PyData} (h : ∀ d ∈ ds, PO 2 300 o d) {n : Nat} (hn : ds.length ≤ n) (h1 : n ≤ 1000) : Ov (.tuple ds) :=
  ⟨(Od.tup (W := 301000) ho.1 h (len_mul (m := 1000) (by omega) (by decide))).mono (by decide) (by decide), by show ds.length ≤ 1000; omega⟩
theorem ov_lst {k w n : Nat} {ds : List PyData} (h : ∀ d ∈ ds, Pl k w d) (hn : ds.length ≤ n) (h1 : n * (w + 1) ≤ 400000) (hk : k ≤ 5) : Ov (.list ds) :=
  ⟨(Od.lst (W := 400000) h (len_mul hn h1)).mono (by omega) (by decide), by show 0 ≤ 1000; decide⟩
theorem ov_pltup {k w n : Nat} {ds : List PyData} (h : ∀ d ∈ ds, Pl k w d) (hn : ds.length ≤ n) (h1 : n * (w + 1) ≤ 400000) (hk : k ≤ 5) (hn2 : n ≤ 1000) : Ov (.tuple ds) :=
  ⟨(Pl.tup (W := 400000) h (len_mul hn h1)).od.mono (by omega) (by decide), by show ds.length ≤ 1000; omega⟩
theorem cmd_pltup {ds : List PyData} (h : ∀ d ∈ ds, Pl 0 70 d) (hn : ds.length ≤ 4) : CmdV (.tuple ds) :=
  ⟨(Pl.tup (W := 300) h (len_mul hn (by decide))).od.mono (by decide) (by decide), by show ds.length ≤ 1000; omega⟩
theorem cmd_pllst {ds : List PyData} (h : ∀ d ∈ ds, Pl 0 70 d) (hn : ds.length ≤ 4) : CmdV (.list ds) :=
  ⟨(Od.lst (W := 300) h (len_mul hn (by decide))).mono (by decide) (by decide), by show 0 ≤ 1000; decide⟩
theorem pl_cmd {xs : List Int} (hx : ∀ k ∈ xs, 0 ≤ k ∧ k < 60) {c : PyData} (h : GoodC xs c) : Pl 1 300 c := by
  obtain ⟨w, i, j, rfl, hw, hi, hj, _⟩ := h
  refine Pl.tup (w := 70) (fun x hx' => ?_) (by show 3 * (70 + 1) ≤ 300; decide)
  simp only [List.mem_cons, List.mem_nil_iff, or_false] at hx'
  rcases hx' with rfl | rfl | rfl
  · exact pl_word hw
  · exact pl_int (hx i hi).1 (hx i hi).2
  · exact pl_int (hx j hj).1 (hx j hj).2
abbrev LinesS (K : PySem.W.Frag) : Sp := Bg K (fun ds => ∃ xs : List Int, ds = [.tuple (xs.map PyData.int)] ∧ 1 ≤ xs.length ∧ xs.length ≤ 60 ∧ ∀ k ∈ xs, 0 ≤ k ∧ k < 60) fun _ d => ∃ es, d = .list es ∧ es.length ≤ 200 ∧ ∀ e ∈ es, Ov e
abbrev CmdsS (K : PySem.W.Frag) : Sp := Bg K (fun ds => ∃ (xs : List Int) (cs : List PyData), ds = [.tuple cs] ∧ 1 ≤ cs.length ∧ cs.length ≤ 200 ∧ (∀ k ∈ xs, 0 ≤ k ∧ k < 60) ∧ ∀ c ∈ cs, GoodC xs c) fun _ d => ∃ es, d = .list es ∧ 1 ≤ es.length ∧ es.length ≤ 100 ∧ ∀ e ∈ es, CmdV e
abbrev ScrsS (K : PySem.W.Frag) : Sp := Bg K (fun ds => ∃ (xs : List Int) (cs : List PyData), ds = [.tuple cs] ∧ 1 ≤ cs.length ∧ cs.length ≤ 200 ∧ (∀ k ∈ xs, 0 ≤ k ∧ k < 60) ∧ ∀ c ∈ cs, GoodC xs c) fun _ d => ∃ es, d = .list es ∧ es.length ≤ 200 ∧ ∀ e ∈ es, Ov e
theorem size_ok {n : Nat} (h : n ≤ 100000) : n ≤ sizeLine := by
  have hsl : 100000 < sizeLine := by rw [sizeLine_eq]; decide
  omega
section
variable {K : PySem.W.Frag} {g : Addr} {σ : L2.St} {B H : Hp} {te : TE} {D : Ends} {tz : TS} {R : PyData → Prop}
theorem b_asg3 {i j l : Nat} {S : PyData → PyData → PyData → Prop} (h : Eb K g te σ B H R) (e : Ex B H) (b : Bag g B H) (hR : ∀ d, R d → ∃ x y z, d = .tuple [x, y, z] ∧ S x y z)
    (q : ∀ a b c x y z B' H', S a b c → Le [g] B H B' H' → Bag g B' H' → Dq K B' x a → Dq K B' y b → Dq K B' z c → tz D (((σ.set i (some x)).set j (some y)).set l (some z)) H') :
    tSeq (tAsg te (gTup K 3 (gCons (gName i) (gCons (gName j) (gCons (gName l) gNil))))) tz D σ H := h B H (Le.refl e) b _ fun d v B' H' r l b' hv => by
  obtain ⟨x, y, z, rfl, hs⟩ := hR d r
  exact gt3 l.h hv fun a b c ha hb hc => q x y z a b c B' H' hs l b' ha hb hc
/-- a list's item at a number below its length -/
theorem eb_at {ta tb : TE} {ds : List PyData} {n : Int} (ha : ∀ B1 H1, Le [g] B H B1 H1 → Ev K ta σ B1 H1 (.list ds)) (hb : Eb K g tb σ B H (RI fun r => 0 ≤ r ∧ r < n)) (hn : n = ds.length) : Eb K g (tOp (rIx K) ta tb) σ B H (· ∈ ds) :=
  eb_op (eb_of ha) hb fun x y hx hy => by
    subst hx
    obtain ⟨r, rfl, r0, r1⟩ := hy
    have hr : r.toNat < ds.length := by omega
    have z := atI_nat (List.getElem?_eq_getElem hr)
    rw [show ((r.toNat : Nat) : Int) = r by omega] at z
    exact ⟨_, rv_ixL z, List.getElem_mem hr⟩
theorem eb_atT {ta tb : TE} {ds : List PyData} {n : Int} (ha : ∀ B1 H1, Le [g] B H B1 H1 → Ev K ta σ B1 H1 (.tuple ds)) (hb : Eb K g tb σ B H (RI fun r => 0 ≤ r ∧ r < n)) (hn : n = ds.length) : Eb K g (tOp (rIx K) ta tb) σ B H (· ∈ ds) :=
  eb_op (eb_of ha) hb fun x y hx hy => by
    subst hx
    obtain ⟨r, rfl, r0, r1⟩ := hy
    have hr : r.toNat < ds.length := by omega
    have z := atI_nat (List.getElem?_eq_getElem hr)
    rw [show ((r.toNat : Nat) : Int) = r by omega] at z
    exact ⟨_, rv_ixT z, List.getElem_mem hr⟩
end
end MA

set_option maxRecDepth 100000
set_option maxHeartbeats 2000000
namespace MA
open PySem PySem.Spec PyProof.Rows L2
/-! ## the law's loops -/
/-- what was made within is ours: no more known for good -/
def dropB (B : Hp) (a : Addr) : Hp := fun x => if x = a then none else B x
theorem Le.drop {M : List Addr} {B H B' H' : Hp} {a : Addr} (l : Le M B H B' H') (e : Ex B H) (ha : H a = none) : Le M B H (dropB B' a) H' ∧ dropB B' a a = none := by
  have ba : B a = none := by
    cases z : B a with
    | none => rfl
    | some o => rw [e a o z] at ha; cases ha
  refine ⟨⟨fun x o h => ?_, fun x o h => ?_, l.k, l.t, fun x h1 h2 => ?_⟩, if_pos rfl⟩
  · have hne : x ≠ a := fun z => by rw [z, ba] at h; cases h
    show (if x = a then none else B' x) = some o
    rw [if_neg hne]
    exact l.b x o h
  · unfold dropB at h
    split at h
    · cases h
    · exact l.h x o h
  · unfold dropB at h2
    split at h2
    · exact absurd rfl h2
    · exact l.n x h1 h2
section
variable {K : PySem.W.Frag} {g : Addr} {σ : L2.St} {B H : Hp} {tl te : TE} {D : Ends} {tb tz : TS} {gg : TG} {R : PyData → Prop}
theorem s_forL {xs : List PyData} (hl : Ev K tl σ B H (.list xs)) (e : Ex B H) (I : Nat → L2.St → Hp → Prop) (h0 : ∀ B1 H1, Le [] B H B1 H1 → I 0 σ B1)
    (hs : ∀ (i : Nat) (d : PyData) (v : V) σ' B' H' N, Le [] B H B' H' → xs[i]? = some d → Dq K B' v d → I i σ' B' → (∀ σ3 B3 H3, Le [] B' H' B3 H3 → I (i + 1) σ3 B3 → N σ3 H3) →
      gg v σ' H' fun σ2 H2 => tb { D with nx := N, ct := N, bk := D.nx } σ2 H2)
    (hd : ∀ σ' B' H', Le [] B H B' H' → I xs.length σ' B' → D.nx σ' H') : tFor (iList K tl) gg tb D σ H := by
  refine hl B H (Le.refl e) _ fun u B1 H1 l1 hu => ?_
  cases hu with
  | lst hv hq =>
    rename_i a ys
    refine ⟨a, rfl, ⟨ys, .inl (.inl (l1.h _ _ hv))⟩, for_list (xs := ys) (fun i σ' H' => ∃ B', Le [] B1 H1 B' H' ∧ I i σ' B') ⟨B1, Le.refl l1.h, h0 B1 H1 l1⟩ (fun i σ' H' _ p => ?_) (fun i x σ' H' hi p => ?_) (fun σ' H' p => ?_)⟩
    · obtain ⟨B', l, _⟩ := p
      exact .inl (.inl (l.h _ _ (l.b _ _ hv)))
    · obtain ⟨B', l, hI⟩ := p
      obtain ⟨d, hd, hx⟩ := hq.get hi
      exact hs i d x σ' B' H' _ (l1.trans l) hd (hx.mono l.b) hI fun σ3 B3 H3 l3 hI3 => ⟨B3, l.trans l3, hI3⟩
    · obtain ⟨B', l, hI⟩ := p
      rw [hq.length] at hI
      exact hd σ' B' H' (l1.trans l) hI
theorem q_forL {xs : List PyData} (hl : Ev K tl σ B H (.list xs)) (e : Ex B H) (I : Nat → L2.St → Hp → Prop) (h0 : ∀ B1 H1, Le [] B H B1 H1 → I 0 σ B1)
    (hs : ∀ (i : Nat) (d : PyData) (v : V) σ' B' H' N, Le [] B H B' H' → xs[i]? = some d → Dq K B' v d → I i σ' B' → (∀ σ3 B3 H3, Le [] B' H' B3 H3 → I (i + 1) σ3 B3 → N σ3 H3) →
      gg v σ' H' fun σ2 H2 => tb { D with nx := N, ct := N, bk := tz D } σ2 H2)
    (hd : ∀ σ' B' H', Le [] B H B' H' → I xs.length σ' B' → tz D σ' H') : tSeq (tFor (iList K tl) gg tb) tz D σ H := s_forL (D := { D with nx := tz D }) hl e I h0 hs hd
/-- over what the bag gave, the body pure -/
theorem b_forL (hl : Eb K g tl σ B H (fun d => ∃ es, d = .list es ∧ ∀ e ∈ es, R e)) (e : Ex B H) (b : Bag g B H) (I : Nat → L2.St → Hp → Prop) (h0 : ∀ B1 H1, Le [g] B H B1 H1 → I 0 σ B1)
    (hs : ∀ (i : Nat) (d : PyData) (v : V) σ' B' H' N, Le [g] B H B' H' → R d → Dq K B' v d → I i σ' B' → (∀ σ3 B3 H3, Le [] B' H' B3 H3 → I (i + 1) σ3 B3 → N σ3 H3) →
      gg v σ' H' fun σ2 H2 => tb { D with nx := N, ct := N, bk := tz D } σ2 H2)
    (hd : ∀ i σ' B' H', Le [g] B H B' H' → I i σ' B' → tz D σ' H') : tSeq (tFor (iList K tl) gg tb) tz D σ H := by
  refine hl B H (Le.refl e) b _ fun d v B1 H1 r l1 b1 hv => ?_
  obtain ⟨es, rfl, hr⟩ := r
  cases hv with
  | lst hv hq =>
    rename_i a ys
    refine ⟨a, rfl, ⟨ys, .inl (.inl (l1.h _ _ hv))⟩, for_list (xs := ys) (fun i σ' H' => ∃ B', Le [] B1 H1 B' H' ∧ I i σ' B') ⟨B1, Le.refl l1.h, h0 B1 H1 l1⟩ (fun i σ' H' _ p => ?_) (fun i x σ' H' hi p => ?_) (fun σ' H' p => ?_)⟩
    · obtain ⟨B', l, _⟩ := p
      exact .inl (.inl (l.h _ _ (l.b _ _ hv)))
    · obtain ⟨B', l, hI⟩ := p
      obtain ⟨d, hd, hx⟩ := hq.get hi
      exact hs i d x σ' B' H' _ (l1.trans l.any) (hr d (List.mem_of_getElem? hd)) (hx.mono l.b) hI fun σ3 B3 H3 l3 hI3 => ⟨B3, l.trans l3, hI3⟩
    · obtain ⟨B', l, hI⟩ := p
      exact hd _ σ' B' H' (l1.trans l.any) hI
/-- over range(n), n written; the body keeps what is known -/
theorem s_forR {n : Nat} (hn : n ≤ 1000) (e : Ex B H) (I : Nat → L2.St → Hp → Prop) (h0 : I 0 σ B)
    (hs : ∀ (i : Nat) σ' B' H' N, Le [] B H B' H' → I i σ' B' → (∀ σ3 B3 H3, Le [] B' H' B3 H3 → I (i + 1) σ3 B3 → N σ3 H3) →
      gg (.int (0 + (i : Nat))) σ' H' fun σ2 H2 => tb { D with nx := N, ct := N, bk := D.nx } σ2 H2)
    (hd : ∀ σ' B' H', Le [] B H B' H' → I n σ' B' → D.nx σ' H') : tFor (iRng1 (tCons (tC (.int (n : Nat))) tNil)) gg tb D σ H := by
  refine ⟨(n : Nat), rfl, by omega, by omega, ?_⟩
  rw [show ((n : Nat) : Int).toNat = n by omega]
  refine for_range (lo := 0) (n := n) (fun i σ' H' => ∃ B', Le [] B H B' H' ∧ I i σ' B') ⟨B, Le.refl e, h0⟩ (fun i σ' H' _ p => ?_) (fun σ' H' p => ?_)
  · obtain ⟨B', l, hI⟩ := p
    exact hs i σ' B' H' _ l hI fun σ3 B3 H3 l3 hI3 => ⟨B3, l.trans l3, hI3⟩
  · obtain ⟨B', l, hI⟩ := p
    exact hd σ' B' H' l hI
theorem b_asg2 {i j : Nat} {S : PyData → PyData → Prop} (h : Eb K g te σ B H R) (e : Ex B H) (b : Bag g B H) (hR : ∀ d, R d → ∃ x y, d = .tuple [x, y] ∧ S x y)
    (q : ∀ a b x y B' H', S a b → Le [g] B H B' H' → Bag g B' H' → Dq K B' x a → Dq K B' y b → tz D ((σ.set i (some x)).set j (some y)) H') :
    tSeq (tAsg te (gTup K 2 (gCons (gName i) (gCons (gName j) gNil)))) tz D σ H := h B H (Le.refl e) b _ fun d v B' H' r l b' hv => by
  obtain ⟨x, y, rfl, hs⟩ := hR d r
  exact gt2 l.h hv fun a b ha hb => q x y a b B' H' hs l b' ha hb
/-- the law's script, cut, as data -/
theorem ev_slS {i : Nat} {a : Addr} {ns : List Int} {k : Int} (h : σ[i]? = some (some (.ref a))) (hs : SqL K H a (ns.map V.int)) (hk : 0 ≤ k) : Ev K (tSl (rSlAny K) (tVar i) tNoPart (tPart (tC (.int k)))) σ B H (.list ((ns.take k.toNat).map PyData.int)) := fun B1 H1 l Q q => by
  refine ⟨.ref a, h, k, rfl, .inr (.inl ?_)⟩
  have hs1 : SqL K H1 a (ns.map V.int) := Evl.ex_l l.ex hs
  have e1 : cutV (ns.map V.int) none (some k) = (ns.take k.toNat).map V.int := by
    have := cut_to (ns.map V.int) k.toNat
    rw [show ((k.toNat : Nat) : Int) = k by omega] at this
    rw [show cutV (ns.map V.int) none (some k) = cutG (ns.map V.int) none (some k) from rfl, this, List.map_take]
  refine ⟨a, _, rfl, hs1, fun p hp => ?_⟩
  rw [e1]
  exact q (.ref p) _ _ (Le.new l.h hp) (.lst upd_same (dqInts _))
theorem ev_repr {d : PyData} (h : Ev K te σ B H d) (ho : Ov d) : Ev K (tCB (rRepr K) (tCons te tNil)) σ B H (.str d.shown) := ev_cb (ea_cons h ea_nil) fun B H vs e hvs Q q => by
  obtain ⟨v, rfl, hv⟩ := dq1 hvs
  obtain ⟨h1, h2, h3, h4⟩ := ho.repr
  exact ⟨v, d, rfl, hv.mono e, h1, h2, h3, h4, q _ B H (Le.refl e) (.str _)⟩
theorem et_same {s : PySem.Str} {ta tb : TE} (h1 : Ev K ta σ B H (.str s)) (h2 : Ev K tb σ B H (.str s)) : EvT (tTest (tOp (rNeA K) ta tb)) σ B H false := by
  have c := et_test (ev_op h1 h2 rv_neS)
  rw [decide_eq_true rfl] at c
  exact c
theorem ov_bools (x y z : Bool) : Ov (.list [.bool x, .bool y, .bool z]) := ov_lst (k := 0) (w := 70) (n := 3) (fun d hd => by
  simp only [List.mem_cons, List.mem_nil_iff, or_false] at hd
  rcases hd with rfl | rfl | rfl <;> exact pl_of (by revert x y z; decide)) (by show 3 ≤ 3; decide) (by decide) (by decide)
end
end MA

set_option maxRecDepth 100000
set_option maxHeartbeats 2000000
namespace MA
open PySem PySem.Spec PyProof.Rows L2
/-! ## what commands do to a row: the row by the command's own map -/
def cmdMap (b : Bool) (i j r : Int) : List Int := if r = i then [] else if r = j then (if b then [j, i] else [i, j]) else [r]
/-- take i out, put it behind or before j -/
def stepI (b : Bool) (i j : Int) (R : List Int) : List Int :=
  (R.erase i).take ((R.erase i).idxOf j + (if b then 1 else 0)) ++ [i] ++ (R.erase i).drop ((R.erase i).idxOf j + (if b then 1 else 0))
theorem flatMap_erase {m : Int → List Int} {i : Int} (h : m i = []) : ∀ R : List Int, (R.erase i).flatMap m = R.flatMap m
  | [] => rfl
  | a :: R => by
    rw [List.erase_cons]
    by_cases z : a = i
    · subst z
      rw [if_pos (by simp), List.flatMap_cons, h, List.nil_append]
    · rw [if_neg (by simp [z]), List.flatMap_cons, List.flatMap_cons, flatMap_erase h R]
theorem flatMap_self {m : Int → List Int} : ∀ {R : List Int}, (∀ a ∈ R, m a = [a]) → R.flatMap m = R
  | [], _ => rfl
  | a :: R, h => by
    rw [List.flatMap_cons, h a (List.mem_cons_self ..), flatMap_self fun x hx => h x (List.mem_cons_of_mem _ hx)]
    rfl
theorem split_at {j : Int} : ∀ {R : List Int}, R.count j = 1 → ∃ A B, R = A ++ j :: B ∧ j ∉ A ∧ j ∉ B ∧ R.idxOf j = A.length
  | [], h => by simp at h
  | a :: R, h => by
    by_cases z : a = j
    · subst z
      refine ⟨[], R, rfl, by simp, fun m => ?_, by simp⟩
      have := List.one_le_count_iff.mpr m
      rw [List.count_cons_self] at h
      omega
    · rw [List.count_cons_of_ne z] at h
      obtain ⟨A, B, e, h1, h2, h3⟩ := split_at h
      refine ⟨a :: A, B, by rw [e]; rfl, fun m => ?_, h2, ?_⟩
      · rcases List.mem_cons.mp m with w | w
        · exact z w.symm
        · exact h1 w
      · rw [List.idxOf_cons, show (a == j) = false by simp [z], h3]
        rfl
theorem step_cut {b : Bool} {i j : Int} {R : List Int} (hi : R.count i = 1) (hj : R.count j = 1) (hne : i ≠ j) :
    ∃ A B, R.erase i = A ++ j :: B ∧ j ∉ A ∧ j ∉ B ∧ i ∉ A ∧ i ∉ B ∧ (R.erase i).idxOf j = A.length ∧ stepI b i j R = A ++ (if b then [j, i] else [i, j]) ++ B := by
  have h1 : (R.erase i).count j = 1 := by rw [List.count_erase_of_ne (Ne.symm hne), hj]
  have h2 : (R.erase i).count i = 0 := by rw [List.count_erase_self, hi]
  obtain ⟨A, B, e, a1, a2, a3⟩ := split_at h1
  have hni : i ∉ A ++ j :: B := by rw [← e]; exact List.count_eq_zero.mp h2
  refine ⟨A, B, e, a1, a2, fun m => hni (List.mem_append_left _ m), fun m => hni (List.mem_append_right _ (List.mem_cons_of_mem _ m)), a3, ?_⟩
  unfold stepI
  rw [a3, e]
  cases b with
  | true =>
    have t1 : (A ++ j :: B).take (A.length + 1) = A ++ [j] := by rw [List.take_append, List.take_of_length_le (by omega), Nat.add_sub_cancel_left]; rfl
    have t2 : (A ++ j :: B).drop (A.length + 1) = B := by rw [List.drop_append, List.drop_of_length_le (by omega), Nat.add_sub_cancel_left]; rfl
    simp only [if_true, t1, t2, List.append_assoc, List.cons_append, List.nil_append]
  | false =>
    have t1 : (A ++ j :: B).take (A.length + 0) = A := by rw [Nat.add_zero, List.take_left']; rfl
    have t2 : (A ++ j :: B).drop (A.length + 0) = j :: B := by rw [Nat.add_zero, List.drop_left']; rfl
    simp only [Bool.false_eq_true, if_false, t1, t2, List.append_assoc, List.cons_append, List.nil_append]
theorem step_map {b : Bool} {i j : Int} {R : List Int} (hi : R.count i = 1) (hj : R.count j = 1) (hne : i ≠ j) : stepI b i j R = R.flatMap (cmdMap b i j) := by
  obtain ⟨A, B, e, a1, a2, a3, a4, _, h⟩ := step_cut (b := b) hi hj hne
  have m0 : cmdMap b i j i = [] := by unfold cmdMap; rw [if_pos rfl]
  have mj : cmdMap b i j j = if b then [j, i] else [i, j] := by unfold cmdMap; rw [if_neg (Ne.symm hne), if_pos rfl]
  have self : ∀ {C : List Int}, i ∉ C → j ∉ C → C.flatMap (cmdMap b i j) = C := fun h1 h2 => flatMap_self fun a ha => by
    unfold cmdMap
    rw [if_neg (fun z : a = i => h1 (z ▸ ha)), if_neg (fun z : a = j => h2 (z ▸ ha))]
  rw [h, ← flatMap_erase m0 R, e, List.flatMap_append, List.flatMap_cons, self a3 a1, self a4 a2, mj, List.append_assoc]
theorem step_perm {b : Bool} {i j : Int} {R : List Int} (hi : R.count i = 1) (hj : R.count j = 1) (hne : i ≠ j) : (stepI b i j R).Perm R := by
  obtain ⟨A, B, e, _, _, _, _, _, h⟩ := step_cut (b := b) hi hj hne
  have m : i ∈ R := List.one_le_count_iff.mp (by omega)
  have p := List.perm_cons_erase m
  rw [e] at p
  rw [h]
  refine .trans ?_ p.symm
  cases b with
  | true =>
    show (A ++ [j, i] ++ B).Perm (i :: (A ++ j :: B))
    have q : (A ++ [j, i] ++ B).Perm ((A ++ [j]) ++ i :: B) := by rw [List.append_assoc, List.append_assoc]; exact .refl _
    refine q.trans (List.perm_middle.trans ?_)
    rw [List.append_assoc]
    exact .refl _
  | false =>
    show (A ++ [i, j] ++ B).Perm (i :: (A ++ j :: B))
    rw [List.append_assoc]
    exact List.perm_middle
/-! a script -/
def cmdB : PyData → Bool
  | .tuple (.str x :: _) => decide (x = "behind")
  | _ => false
def stepD (R : List Int) (c : PyData) : List Int := match itemsD' c with
  | some (i, j) => stepI (cmdB c) i j R
  | none => R
where itemsD' : PyData → Option (Int × Int)
  | .tuple [_, .int i, .int j] => some (i, j)
  | _ => none
def mapD (c : PyData) (r : Int) : List Int := match stepD.itemsD' c with
  | some (i, j) => cmdMap (cmdB c) i j r
  | none => [r]
def playL (S : List PyData) (R : List Int) : List Int := S.foldl stepD R
def scrMap : List PyData → Int → List Int
  | [], r => [r]
  | c :: S, r => (mapD c r).flatMap (scrMap S)
/-- a row in which each item of the commands stands once -/
def Fit (xs R : List Int) : Prop := ∀ k ∈ xs, R.count k = 1
theorem step_of {xs R : List Int} {c : PyData} (hc : GoodC xs c) (hf : Fit xs R) : stepD R c = R.flatMap (mapD c) ∧ (stepD R c).Perm R := by
  obtain ⟨w, i, j, rfl, _, hi, hj, hne⟩ := hc
  exact ⟨step_map (hf i hi) (hf j hj) hne, step_perm (hf i hi) (hf j hj) hne⟩
theorem play_of {xs : List Int} : ∀ (S : List PyData) {R : List Int}, (∀ c ∈ S, GoodC xs c) → Fit xs R → playL S R = R.flatMap (scrMap S) ∧ (playL S R).Perm R
  | [], R, _, _ => ⟨(flatMap_self fun a _ => rfl).symm, .refl _⟩
  | c :: S, R, h, hf => by
    obtain ⟨h1, h2⟩ := step_of (h c (List.mem_cons_self ..)) hf
    have hf2 : Fit xs (stepD R c) := fun k hk => by rw [h2.count_eq, hf k hk]
    obtain ⟨h3, h4⟩ := play_of S (fun c hc => h c (List.mem_cons_of_mem _ hc)) hf2
    refine ⟨?_, h4.trans h2⟩
    show playL S (stepD R c) = _
    rw [h3, h1, List.flatMap_assoc]
    rfl
theorem scrMap_other {xs : List Int} {r : Int} (hr : r ∉ xs) : ∀ {S : List PyData}, (∀ c ∈ S, GoodC xs c) → scrMap S r = [r]
  | [], _ => rfl
  | c :: S, h => by
    obtain ⟨w, i, j, rfl, _, hi, hj, _⟩ := h c (List.mem_cons_self ..)
    have e : mapD (.tuple [.str w, .int i, .int j]) r = [r] := by
      show cmdMap _ i j r = [r]
      unfold cmdMap
      rw [if_neg (fun z : r = i => hr (z ▸ hi)), if_neg (fun z : r = j => hr (z ▸ hj))]
    show (mapD _ r).flatMap (scrMap S) = [r]
    rw [e, List.flatMap_cons, scrMap_other hr fun c hc => h c (List.mem_cons_of_mem _ hc)]
    rfl
theorem scrMap_append : ∀ (S T : List PyData) (r : Int), scrMap (S ++ T) r = (scrMap S r).flatMap (scrMap T)
  | [], T, r => by show scrMap T r = [r].flatMap (scrMap T); rw [List.flatMap_cons]; exact (List.append_nil _).symm
  | c :: S, T, r => by
    show (mapD c r).flatMap (scrMap (S ++ T)) = ((mapD c r).flatMap (scrMap S)).flatMap (scrMap T)
    rw [List.flatMap_assoc]
    congr 1
    funext x
    exact scrMap_append S T x
theorem scrMap_mem {xs : List Int} {r k : Int} : ∀ {S : List PyData}, (∀ c ∈ S, GoodC xs c) → k ∈ scrMap S r → k = r ∨ k ∈ xs
  | [], _, h => .inl (List.mem_singleton.mp h)
  | c :: S, hS, h => by
    obtain ⟨x, hx, hk⟩ := List.mem_flatMap.mp h
    rcases scrMap_mem (fun c hc => hS c (List.mem_cons_of_mem _ hc)) hk with rfl | h
    · obtain ⟨w, i, j, rfl, _, hi, hj, _⟩ := hS c (List.mem_cons_self ..)
      have hx' : k ∈ cmdMap (cmdB (.tuple [.str w, .int i, .int j])) i j r := hx
      unfold cmdMap at hx'
      split at hx'
      · cases hx'
      · split at hx'
        · split at hx'
          · simp only [List.mem_cons, List.mem_nil_iff, or_false] at hx'
            rcases hx' with rfl | rfl
            · exact .inr hj
            · exact .inr hi
          · simp only [List.mem_cons, List.mem_nil_iff, or_false] at hx'
            rcases hx' with rfl | rfl
            · exact .inr hi
            · exact .inr hj
        · exact .inl (List.mem_singleton.mp hx')
    · exact .inr h
/-! the fences -/
def fencedL (ns : List Int) : List Int := ns.flatMap fun n => [-1, n]
theorem fenced_map {m : Int → List Int} (h : m (-1) = [-1]) (ns : List Int) : (fencedL ns).flatMap m = ns.flatMap fun n => -1 :: m n := by
  unfold fencedL
  rw [List.flatMap_assoc]
  congr 1
  funext n
  show m (-1) ++ (m n ++ []) = _
  rw [h, List.append_nil]
  rfl
/-- the parts behind the fences: a fence opens one, the rest goes to the last -/
def partStep (parts : List (List Int)) (k : Int) : List (List Int) := if k = -1 then parts ++ [[]] else parts.dropLast ++ [(parts.getLastD []) ++ [k]]
theorem part_fill : ∀ (m : List Int) (P : List (List Int)) (l : List Int), -1 ∉ m → m.foldl partStep (P ++ [l]) = P ++ [l ++ m]
  | [], P, l, _ => by rw [List.append_nil]; rfl
  | k :: m, P, l, h => by
    have hk : k ≠ -1 := fun z => h (z ▸ List.mem_cons_self ..)
    have e : partStep (P ++ [l]) k = P ++ [l ++ [k]] := by
      unfold partStep
      rw [if_neg hk, List.dropLast_concat]
      congr 2
      rw [List.getLastD_eq_getLast?, List.getLast?_concat]
      rfl
    rw [List.foldl_cons, e, part_fill m P _ fun z => h (List.mem_cons_of_mem _ z), List.append_assoc]
    rfl
theorem parts_map {m : Int → List Int} : ∀ (ns : List Int) (P : List (List Int)), (∀ n ∈ ns, -1 ∉ m n) → (ns.flatMap fun n => -1 :: m n).foldl partStep P = P ++ ns.map m
  | [], P, _ => by simp
  | n :: ns, P, h => by
    rw [List.flatMap_cons, List.foldl_append, List.foldl_cons]
    have e : partStep P (-1) = P ++ [[]] := by unfold partStep; rw [if_pos rfl]
    rw [e, part_fill _ _ _ (h n (List.mem_cons_self ..)), parts_map ns _ fun x hx => h x (List.mem_cons_of_mem _ hx), List.append_assoc]
    rfl
end MA

set_option maxRecDepth 100000
set_option maxHeartbeats 2000000
namespace MA
open PySem PySem.Spec PyProof.Rows L2
/-! ## rows of ints that are ours -/
theorem idx_first : ∀ {R : List Int} {k : Int}, k ∈ R → R[R.idxOf k]? = some k ∧ (∀ m : Nat, m < R.idxOf k → R[m]? ≠ some k) ∧ R.eraseIdx (R.idxOf k) = R.erase k
  | [], _, h => by simp at h
  | a :: R, k, h => by
    by_cases z : a = k
    · subst z
      have e : (a :: R).idxOf a = 0 := by simp
      rw [e]
      exact ⟨rfl, fun m hm => absurd hm (by omega), by simp⟩
    · have hk : k ∈ R := by
        rcases List.mem_cons.mp h with e | e
        · exact absurd e.symm z
        · exact e
      obtain ⟨h1, h2, h3⟩ := idx_first hk
      have e : (a :: R).idxOf k = R.idxOf k + 1 := by rw [List.idxOf_cons, show (a == k) = false by simp [z]]; rfl
      rw [e]
      refine ⟨by simpa using h1, fun m hm => ?_, ?_⟩
      · cases m with
        | zero => simpa using z
        | succ m => simpa using h2 m (by omega)
      · rw [List.eraseIdx_cons_succ, h3, List.erase_cons, if_neg (by simp [z])]
section
variable {K : PySem.W.Frag} {p : Addr} {H : Hp} {R : List Int} {k : Int} {Q : VK}
theorem rem_own (hp : H p = some (.lst (R.map V.int))) (hk : k ∈ R) (q : Q .non (upd H p (.lst ((R.erase k).map V.int)))) : rRemI (.ref p) [.int k] H Q := by
  obtain ⟨h1, h2, h3⟩ := idx_first hk
  exact ⟨p, R, k, R.idxOf k, rfl, rfl, hp, h1, h2, by rw [h3]; exact q⟩
theorem eqV_int (a b : Int) : eqV (.int a) (.int b) = decide (a = b) := by
  have := inV_ints a [b]
  simp only [List.map_cons, List.map_nil, List.mem_singleton] at this
  by_cases z : a = b
  · subst z
    first | (simp [eqV]) | rfl
  · first | (simp [eqV, z]) | rfl
theorem idx_own (hp : H p = some (.lst (R.map V.int))) (hk : k ∈ R) (q : Q (.int (R.idxOf k : Nat)) H) : rIndex K (.ref p) [.int k] H Q := by
  obtain ⟨h1, h2, h3⟩ := idx_first hk
  refine ⟨p, R.map V.int, .int k, R.idxOf k, .int k, rfl, rfl, .inl (.inl hp), rfl, flat_ints R, by rw [List.getElem?_map, h1]; rfl, by rw [eqV_int]; exact decide_eq_true rfl, fun m z hm hz => ?_, q⟩
  rw [List.getElem?_map] at hz
  cases e : R[m]? with
  | none => rw [e] at hz; cases hz
  | some a =>
    rw [e] at hz
    cases hz
    rw [eqV_int]
    exact decide_eq_false fun w => h2 m hm (by rw [e, w])
end
section
variable {K : PySem.W.Frag} {p : Addr} {σ : L2.St} {B H : Hp} {te : TE} {d : PyData} {D : Ends} {tz : TS}
theorem ev_callU {Pre : List PyData → Prop} {Post : List PyData → PyData → Prop} {E : XK} {ts : TA} {ds : List PyData} (h : EvA K ts σ B H ds) (hp : Pre ds) (hd : ∀ x, Post ds x → x = d) : Ev K (tCall (Pu K Pre Post) [] E ts) σ B H d := fun B1 H1 l Q q =>
  h B1 H1 l _ fun vs B2 H2 l2 hs => ⟨B2, ds, l2.h, by rw [List.append_nil]; exact hs, hp, fun x hx v B3 H3 l3 hv => by rw [hd x hx] at hv; exact q v B3 H3 (l2.trans l3) hv⟩
/-- p.append(..), p ours, nothing drawn -/
theorem s_append {i : Nat} {vs : List V} (hi : σ[i]? = some (some (.ref p))) (h : Ev K te σ B H d) (e : Ex B H) (hp : B p = none) (hpl : H p = some (.lst vs)) (hz : vs.length < 100000)
    (q : ∀ v B' H', Le [p] B H B' H' → B' p = none → H' p = some (.lst (vs ++ [v])) → Dq K B' v d → D.nx σ H') : tDrop (tBM K "list" rAppend (tVar i) (tCons te tNil)) D σ H := by
  refine ⟨.ref p, hi, .inl ⟨rfl, vs, .inl (.inl hpl)⟩, ?_⟩
  refine h B H (Le.refl e) _ fun v B' H' l hv => ?_
  have hp' := l.own hpl hp
  have hpl' := l.k p _ (by simp) hpl
  have hsl : 100000 < sizeLine := by rw [sizeLine_eq]; decide
  refine ⟨p, vs, v, rfl, rfl, hpl', by omega, ?_⟩
  exact q v B' _ (l.any.trans (Le.put (M := [p]) l.h hp' (by simp))) hp' upd_same hv
end
section
variable {K : PySem.W.Frag} {p : Addr} {σ : L2.St} {H : Hp} {D : Ends} {tz : TS} {R : List Int} {k : Int}
theorem q_rem {i j : Nat} (hi : σ[i]? = some (some (.ref p))) (hj : σ[j]? = some (some (.int k))) (hp : H p = some (.lst (R.map V.int))) (hk : k ∈ R) (q : tz D σ (upd H p (.lst ((R.erase k).map V.int)))) : tSeq (tDrop (tBM K "list" rRemI (tVar i) (tCons (tVar j) tNil))) tz D σ H := by
  refine ⟨.ref p, hi, .inl ⟨rfl, _, .inl (.inl hp)⟩, .int k, hj, ?_⟩
  show rRemI (.ref p) [.int k] H fun _ H1 => tz D σ H1
  exact rem_own hp hk q
theorem q_idx {i j l : Nat} (hi : σ[i]? = some (some (.ref p))) (hj : σ[j]? = some (some (.int k))) (hp : H p = some (.lst (R.map V.int))) (hk : k ∈ R) (q : tz D (σ.set l (some (.int (R.idxOf k : Nat)))) H) : tSeq (tAsg (tBM K "list" (rIndex K) (tVar i) (tCons (tVar j) tNil)) (gName l)) tz D σ H := by
  refine ⟨.ref p, hi, .inl ⟨rfl, _, .inl (.inl hp)⟩, .int k, hj, ?_⟩
  show rIndex K (.ref p) [.int k] H fun v H1 => tz D (σ.set l (some v)) H1
  exact idx_own hp hk q
end
theorem none_of {B H : Hp} (e : Ex B H) {p : Addr} (hp : H p = none) : B p = none := by
  cases z : B p with
  | none => rfl
  | some o => rw [e p o z] at hp; cases hp
theorem q_append {K : PySem.W.Frag} {p : Addr} {σ : L2.St} {B H : Hp} {te : TE} {d : PyData} {D : Ends} {tz : TS} {i : Nat} {vs : List V} (hi : σ[i]? = some (some (.ref p))) (h : Ev K te σ B H d) (e : Ex B H) (hp : B p = none) (hpl : H p = some (.lst vs)) (hz : vs.length < 100000)
    (q : ∀ v B' H', Le [p] B H B' H' → B' p = none → H' p = some (.lst (vs ++ [v])) → Dq K B' v d → tz D σ H') : tSeq (tDrop (tBM K "list" rAppend (tVar i) (tCons te tNil))) tz D σ H := s_append (D := { D with nx := tz D }) hi h e hp hpl hz q
section
variable {K : PySem.W.Frag} {p : Addr} {σ : L2.St} {B H : Hp} {te : TE} {t : TT} {D : Ends} {tz : TS} {i : Nat} {ns : List Int} {k : Bool} {n : Int}
/-- if ..: p.append(n) -/
theorem s_ifApp (ht : EvT t σ B H k) (e : Ex B H) (hv : ∀ B' H', Le [] B H B' H' → Ev K te σ B' H' (.int n)) (hi : σ[i]? = some (some (.ref p))) (hp : B p = none) (hpl : H p = some (.lst (ns.map V.int))) (hz : ns.length < 100000)
    (q : ∀ B' H', Le [p] B H B' H' → B' p = none → H' p = some (.lst ((ns ++ (if k then [n] else [])).map V.int)) → D.nx σ H') : tIfS t (tDrop (tBM K "list" rAppend (tVar i) (tCons te tNil))) tNext D σ H := by
  refine s_if ht e (fun hk B' H' l => ?_) fun hk B' H' l => ?_
  · refine s_append (K := K) (p := p) hi (hv B' H' l) l.h (l.own hpl hp) (l.k p _ (by simp) hpl) (by rw [List.length_map]; exact hz) fun v B2 H2 l2 b2 h2 hv => ?_
    cases hv
    refine q B2 H2 (l.any.trans l2) b2 ?_
    rw [h2, hk, if_pos rfl, List.map_append]
    rfl
  · refine q B' H' l.any (l.own hpl hp) ?_
    rw [hk, if_neg (by decide), List.append_nil]
    exact l.k p _ (by simp) hpl
theorem q_ifApp (ht : EvT t σ B H k) (e : Ex B H) (hv : ∀ B' H', Le [] B H B' H' → Ev K te σ B' H' (.int n)) (hi : σ[i]? = some (some (.ref p))) (hp : B p = none) (hpl : H p = some (.lst (ns.map V.int))) (hz : ns.length < 100000)
    (q : ∀ B' H', Le [p] B H B' H' → B' p = none → H' p = some (.lst ((ns ++ (if k then [n] else [])).map V.int)) → tz D σ H') : tSeq (tIfS t (tDrop (tBM K "list" rAppend (tVar i) (tCons te tNil))) tNext) tz D σ H := s_ifApp (D := { D with nx := tz D }) ht e hv hi hp hpl hz q
end
/-! the program's players -/
abbrev PlayedS (K : PySem.W.Frag) : Sp := Pu K (fun ds => ∃ (xs R : List Int) (cs : List PyData), (ds = [.list (R.map PyData.int), .tuple cs] ∨ ds = [.tuple (R.map PyData.int), .tuple cs]) ∧ (∀ c ∈ cs, GoodC xs c) ∧ Fit xs R ∧ R.length ≤ 1000)
  fun ds d => ∀ (R : List Int) (cs : List PyData), (ds = [.list (R.map PyData.int), .tuple cs] ∨ ds = [.tuple (R.map PyData.int), .tuple cs]) → d = .list ((playL cs R).map PyData.int)
abbrev FencedS (K : PySem.W.Frag) : Sp := Pu K (fun ds => ∃ R : List Int, ds = [.list (R.map PyData.int)] ∧ R.length ≤ 1000) fun ds d => ∀ R : List Int, ds = [.list (R.map PyData.int)] → d = .list ((fencedL R).map PyData.int)
abbrev PartsS (K : PySem.W.Frag) : Sp := Pu K (fun ds => ∃ R : List Int, ds = [.list (((-1) :: R).map PyData.int)] ∧ R.length ≤ 10000) fun ds d => ∀ R : List Int, ds = [.list (R.map PyData.int)] → d = .list ((R.foldl partStep []).map fun l => .tuple (l.map PyData.int))
/-- the law's own players -/
abbrev MovedS (K : PySem.W.Frag) : Sp := Pu K (fun ds => ∃ (R : List Int) (w : PySem.Str) (i j : Int), ds = [.tuple (R.map PyData.int), .tuple [.str w, .int i, .int j]] ∧ (w = "behind" ∨ w = "before") ∧ i ≠ j ∧ R.length ≤ 1000)
  fun ds d => ∃ (R : List Int) (w : PySem.Str) (i j : Int), ds = [.tuple (R.map PyData.int), .tuple [.str w, .int i, .int j]] ∧ d = .tuple ((R.flatMap (cmdMap (decide (w = "behind")) i j)).map PyData.int)
abbrev DoneS (K : PySem.W.Frag) : Sp := Pu K (fun ds => ∃ (xs R : List Int) (cs : List PyData), ds = [.tuple (R.map PyData.int), .tuple cs] ∧ (∀ c ∈ cs, GoodC xs c) ∧ Fit xs R ∧ R.length ≤ 1000)
  fun ds d => ∃ (R : List Int) (cs : List PyData), ds = [.tuple (R.map PyData.int), .tuple cs] ∧ d = .tuple ((playL cs R).map PyData.int)
theorem ints_inj : ∀ {a b : List Int}, a.map PyData.int = b.map PyData.int → a = b
  | [], [], _ => rfl
  | [], _ :: _, h => by cases h
  | _ :: _, [], h => by cases h
  | x :: a, y :: b, h => by
    rw [List.map_cons, List.map_cons] at h
    have h1 := PyData.int.inj (List.cons.inj h).1
    rw [h1, ints_inj (List.cons.inj h).2]
theorem playL_take {cs : List PyData} {R : List Int} {i : Nat} {c : PyData} (h : cs[i]? = some c) : playL (cs.take (i + 1)) R = stepD (playL (cs.take i) R) c := by
  unfold playL
  rw [List.take_add_one, h, List.foldl_append]
  rfl
end MA

set_option maxRecDepth 100000
set_option maxHeartbeats 2000000
namespace MA
open PySem PySem.Spec PyProof.Rows L2
/-! ## dicts from ints -/
def effM (ns : List Int) (F : Int → PyData) : PyData := .dict (ns.map fun n => (.int n, F n))
section
variable {K : PySem.W.Frag} {σ : L2.St} {B H : Hp} {tA tB tl tl1 td ty tx : TE}
theorem zip_val : ∀ {kvs : List (Key × V)} {ds : List PyData} {ns : List Int} {F : Int → PyData} (k : Int), DqAll K H (kvs.map (·.2)) ds → zipK kvs ds = ns.map (fun n => (PyData.int n, F n)) →
    if k ∈ ns then ∃ v, valV kvs (.inl k) = some v ∧ Dq K H v (F k) else valV kvs (.inl k) = none
  | [], ds, ns, F, k, q, e => by
    cases ns with
    | nil => rfl
    | cons n ns => cases ds <;> cases e
  | (k', v) :: kvs, [], ns, F, k, q, e => by cases q
  | (k', v) :: kvs, d :: ds, [], F, k, q, e => by cases e
  | (k', v) :: kvs, d :: ds, n :: ns, F, k, q, e => by
    cases q with
    | cons h q =>
      have e1 : (kD k', d) = (PyData.int n, F n) := (List.cons.inj e).1
      have e2 : zipK kvs ds = ns.map (fun n => (PyData.int n, F n)) := (List.cons.inj e).2
      have ek : k' = .inl n := by
        cases k' with
        | inl i => have := (Prod.mk.inj e1).1; exact congrArg _ (PyData.int.inj this)
        | inr s => have := (Prod.mk.inj e1).1; cases this
      have ed : d = F n := (Prod.mk.inj e1).2
      subst ek ed
      have ih := zip_val k q e2
      by_cases z : n = k
      · subst z
        rw [if_pos (List.mem_cons_self ..)]
        exact ⟨v, valV_pos rfl, h⟩
      · have hv : valV ((Sum.inl n, v) :: kvs) (Sum.inl k : Key) = valV kvs (Sum.inl k) := by
          unfold valV
          rw [List.find?_cons]
          simp [z]
        by_cases w : k ∈ ns
        · rw [if_pos w] at ih
          rw [if_pos (List.mem_cons_of_mem _ w), hv]
          exact ih
        · rw [if_neg w] at ih
          rw [if_neg (fun m => by rcases List.mem_cons.mp m with e | e; exact z e.symm; exact w e), hv]
          exact ih
theorem ev_dget2 {ns : List Int} {F : Int → PyData} {k : Int} {dd : PyData} (hd : Ev K td σ B H (effM ns F)) (hk : Ev K ty σ B H (.int k)) (hx : Ev K tx σ B H dd) : Ev K (tDGet2 td ty tx) σ B H (if k ∈ ns then F k else dd) := fun B1 H1 l Q q =>
  hd B1 H1 l _ fun v B2 H2 l2 hv => by
    unfold effM at hv
    generalize hE : ns.map (fun n => (PyData.int n, F n)) = L at hv
    cases hv with
    | dct h hq =>
      rename_i a kvs ds
      refine ⟨a, rfl, .inl ⟨kvs, .inl (l2.h _ _ h)⟩, ?_⟩
      refine hk B2 H2 (l.trans l2) _ fun w B3 H3 l3 hw => ?_
      cases hw
      refine hx B3 H3 ((l.trans l2).trans l3) _ fun u B4 H4 l4 hu => ?_
      have l24 := l3.trans l4
      refine ⟨valV kvs (.inl k), DGet.k (k := .inl k) (l4.h _ _ (l24.b _ _ h)), ?_⟩
      have z := zip_val (K := K) (H := B4) k (hq.mono l24.b) hE.symm
      by_cases w : k ∈ ns
      · rw [if_pos w] at z q
        obtain ⟨y, e1, e2⟩ := z
        rw [e1]
        exact q y B4 H4 (l2.trans l24) e2
      · rw [if_neg w] at z q
        rw [z]
        exact q u B4 H4 (l2.trans l24) hu
def kvsOf (ns : List Int) (ys : List V) : List (Key × V) := (ns.zip ys).map fun p => (.inl p.1, p.2)
theorem kvs_snd : ∀ {ns : List Int} {ys : List V}, ns.length = ys.length → (kvsOf ns ys).map (·.2) = ys
  | [], [], _ => rfl
  | n :: ns, y :: ys, h => by
    show y :: (kvsOf ns ys).map (·.2) = _
    rw [kvs_snd (by simpa using h)]
  | [], _ :: _, h => by simp at h
  | _ :: _, [], h => by simp at h
theorem kvs_zip {F : Int → PyData} : ∀ {ns : List Int} {ys : List V}, ns.length = ys.length → zipK (kvsOf ns ys) (ns.map F) = ns.map fun n => (PyData.int n, F n)
  | [], [], _ => rfl
  | n :: ns, y :: ys, h => by
    show (PyData.int n, F n) :: zipK (kvsOf ns ys) (ns.map F) = _
    rw [kvs_zip (by simpa using h)]
    rfl
  | [], _ :: _, h => by simp at h
  | _ :: _, [], h => by simp at h
theorem kvs_take {ns : List Int} {ys : List V} {i : Nat} {n : Int} {y : V} (h1 : ns[i]? = some n) (h2 : ys[i]? = some y) : kvsOf (ns.take (i + 1)) (ys.take (i + 1)) = kvsOf (ns.take i) (ys.take i) ++ [(.inl n, y)] := by
  unfold kvsOf
  rw [List.take_add_one, List.take_add_one, h1, h2]
  show ((ns.take i ++ [n]).zip (ys.take i ++ [y])).map _ = _
  have l1 : (ns.take i).length = (ys.take i).length := by
    have a1 := (List.getElem?_eq_some_iff.mp h1).1
    have a2 := (List.getElem?_eq_some_iff.mp h2).1
    rw [List.length_take, List.length_take]
    omega
  rw [List.zip_append l1, List.map_append]
  rfl
theorem kvs_new {ns : List Int} {ys : List V} {i : Nat} {n : Int} (hn : ns.Nodup) (h1 : ns[i]? = some n) : ((kvsOf (ns.take i) (ys.take i)).any fun kv => decide (kv.1 = (Sum.inl n : Key))) = false := by
  rw [List.any_eq_false]
  intro kv hkv
  unfold kvsOf at hkv
  obtain ⟨⟨a, b⟩, hab, rfl⟩ := List.mem_map.mp hkv
  have ha : a ∈ ns.take i := (List.of_mem_zip hab).1
  have hne : a ≠ n := fun z => by
    subst z
    exact (nodup_iff ns).mpr hn i a h1 ha
  simp only [decide_eq_true_eq]
  intro z
  exact hne (Sum.inl.inj z)
/-- {k: x for k, x in zip(ints, list)} -/
theorem evN_dcZip {ns : List Int} {F : Int → PyData} {i1 i2 : Nat} {vs : List Nat} (hA : Ev K tA σ B H (.list (ns.map PyData.int))) (hB : Ev K tB σ B H (.list (ns.map F))) (hn : ns.Nodup) (hz : ns.length ≤ 1000)
    (hw : ∀ x y, wipe (((wipe σ vs).set i1 (some x)).set i2 (some y)) vs = wipe σ vs := by intro _ _; rfl) (g1 : ∀ x y, (((wipe σ vs).set i1 (some x)).set i2 (some y))[i1]? = some (some x) := by intro _ _; rfl) (g2 : ∀ x y, (((wipe σ vs).set i1 (some x)).set i2 (some y))[i2]? = some (some y) := by intro _ _; rfl) :
    EvN K (tDc (iZip K (tCons tA (tCons tB tNil))) (gTup K 2 (gCons (gName i1) (gCons (gName i2) gNil))) tYes (tVar i1) (tVar i2) vs) σ B H (effM ns F) := fun B0 H0 l0 Q q => by
  refine hA B0 H0 l0 _ fun u B1 H1 l1 hu => hB B1 H1 (l0.trans l1) _ fun u2 B2 H2 l2 hu2 => ?_
  cases hu with
  | lst hs hq =>
    rename_i a xs
    cases ofInts hq
    cases hu2 with
    | lst hs2 hq2 =>
      rename_i b ys
      have hl : ns.length = ys.length := by rw [hq2.length, List.length_map]
      refine ⟨a, b, ns.map V.int, ys, rfl, .inl (.inl (l2.h _ _ (l2.b _ _ hs))), .inl (.inl (l2.h _ _ hs2)), fun D hD => ?_⟩
      have W := walk_zip (K := K) (a := a) (b := b) (xs := ns.map V.int) (ys := ys) (n := ns.length) (by rw [List.length_map]; omega)
      have hDb := none_of l2.h hD
      have hsl : 1000 < sizeLine := by rw [sizeLine_eq]; decide
      refine ⟨fun i m Hi => m = ns.length - i ∧ i ≤ ns.length ∧ ∃ Bi, Le [] B2 H2 Bi Hi ∧ Bi D = none ∧ Hi D = some (.dK (kvsOf (ns.take i) (ys.take i))), ⟨_, rfl, Nat.zero_le _, B2, Le.made l2.h hD, hDb, upd_same⟩, ?_⟩
      rintro i m Hi ⟨rfl, hi, Bi, le, hb, hh⟩
      have G : SqL K Hi a (ns.map V.int) ∧ SqL K Hi b ys := ⟨.inl (.inl (le.h _ _ (le.b _ _ (l2.b _ _ hs)))), .inl (.inl (le.h _ _ (le.b _ _ hs2)))⟩
      by_cases hlt : i < ns.length
      · have e1 : ns[i]? = some ns[i] := List.getElem?_eq_getElem hlt
        have e2 : ys[i]? = some ys[i] := List.getElem?_eq_getElem (by omega)
        refine .inr ⟨W.goes i Hi hlt G, fun Hn => ∃ Bi, Le [] B2 H2 Bi Hn ∧ Bi D = none ∧ Hn D = some (.dK (kvsOf (ns.take (i + 1)) (ys.take (i + 1)))), fun Hn p => ⟨ns.length - (i + 1), by omega, rfl, hlt, p⟩, fun x Hy y => ?_⟩
        obtain ⟨T, x1, x2, rfl, hT, rfl, f1, f2⟩ := W.yields i Hi x Hy hlt G y
        have ex1 : x1 = .int ns[i] := by
          have f1' : (ns.map V.int)[i]? = some x1 := f1
          rw [List.getElem?_map, e1] at f1'
          exact (Option.some.inj f1').symm
        have ex2 : x2 = ys[i] := Option.some.inj (f2.symm.trans e2)
        subst ex1 ex2
        have ln := Le.new (M := []) (o := .tup [.int ns[i], ys[i]]) le.h hT
        have hTD : T ≠ D := fun z => by rw [z, hh] at hT; cases hT
        refine ⟨T, [.int ns[i], ys[i]], rfl, .inl (.inl upd_same), rfl, .int ns[i], [ys[i]], rfl, ys[i], [], rfl, rfl, hw _ _, ?_⟩
        refine yes_i ?_
        rw [if_pos rfl]
        have hh2 : (upd Hi T (.tup [.int ns[i], ys[i]])) D = some (.dK (kvsOf (ns.take i) (ys.take i))) := by rw [upd_ne (Ne.symm hTD)]; exact hh
        have hb2 : (upd Bi T (.tup [.int ns[i], ys[i]])) D = none := by rw [upd_ne (Ne.symm hTD)]; exact hb
        refine ⟨.int ns[i], g1 _ _, ys[i], g2 _ _, _, .inl ns[i], rfl, hh2, ?_, ?_⟩
        · have : (kvsOf (ns.take i) (ys.take i)).length ≤ 1000 := by
            unfold kvsOf
            rw [List.length_map, List.length_zip, List.length_take]
            omega
          omega
        · have ep : putK (kvsOf (ns.take i) (ys.take i)) (Sum.inl ns[i] : Key) ys[i] = kvsOf (ns.take (i + 1)) (ys.take (i + 1)) := by
            unfold putK
            rw [kvs_new hn e1, if_neg (by decide), kvs_take e1 e2]
          rw [ep]
          have lp : Le [D] (upd Bi T (.tup [.int ns[i], ys[i]])) (upd Hi T (.tup [.int ns[i], ys[i]])) (upd Bi T (.tup [.int ns[i], ys[i]])) (upd (upd Hi T (.tup [.int ns[i], ys[i]])) D (.dK (kvsOf (ns.take (i + 1)) (ys.take (i + 1))))) := Le.put ln.h hb2 (by simp)
          exact ⟨_, (((le.trans ln).wk (by simp)).trans lp).local hD, hb2, upd_same⟩
      · have ei : i = ns.length := by omega
        subst ei
        refine .inl ⟨W.stops Hi G, ?_⟩
        rw [List.take_length, List.take_of_length_le (by omega)] at hh
        have lg := le.give hD hb hh
        have hd := Dq.dct (K := K) (H := upd Bi D (.dK (kvsOf ns ys))) (a := D) (kvs := kvsOf ns ys) (ds := ns.map F) upd_same (by rw [kvs_snd hl]; exact (hq2.mono le.b).mono (Evl.Ex.new hb))
        rw [kvs_zip hl] at hd
        exact q (.ref D) _ Hi (l1.trans (l2.trans lg)) ⟨D, rfl, (l1.trans l2).back hD⟩ hd
/-- [y for x in t for y in f(x)], ints -/
theorem ev_lc2T {xs : List Int} {j0 j1 : Nat} {vs vs1 : List Nat} (f : Int → List Int) (hl : Ev K tl σ B H (.tuple (xs.map PyData.int))) (hsz : (xs.flatMap f).length ≤ 100000)
    (hi : ∀ (k : Int) B1 H1, Le [] B H B1 H1 → k ∈ xs → Ev K tl1 ((wipe σ vs).set j0 (some (.int k))) B1 H1 (.tuple ((f k).map PyData.int)))
    (hw : ∀ x, wipe ((wipe σ vs).set j0 (some x)) vs = wipe σ vs := by intro _; rfl)
    (hw1 : ∀ x y, wipe ((wipe ((wipe σ vs).set j0 (some x)) vs1).set j1 (some y)) vs1 = wipe ((wipe σ vs).set j0 (some x)) vs1 := by intro _ _; rfl)
    (hg : ∀ x y, ((wipe ((wipe σ vs).set j0 (some x)) vs1).set j1 (some y))[j1]? = some (some y) := by intro _ _; rfl) :
    Ev K (tLc2 (iTup K tl) (gName j0) tYes (iTup K tl1) (gName j1) tYes (tVar j1) vs vs1) σ B H (.list ((xs.flatMap f).map PyData.int)) := fun B0 H0 l0 Q q => by
  refine hl B0 H0 l0 _ fun u B1 H1 l1 hu => ?_
  cases hu with
  | tup hs hq =>
    rename_i a ys
    cases ofInts hq
    have hsl : 100000 < sizeLine := by rw [sizeLine_eq]; decide
    refine ⟨a, rfl, ⟨_, Evl.ex_t l1.h hs⟩, fun D hD => ?_⟩
    have b1 := none_of l1.h hD
    refine ⟨fun i m Hi => m = xs.length - i ∧ i ≤ xs.length ∧ ∃ Bi, Le [] B1 H1 Bi Hi ∧ Bi D = none ∧ Hi D = some (.lst (((xs.take i).flatMap f).map V.int)), ⟨_, rfl, Nat.zero_le _, B1, Le.made l1.h hD, b1, upd_same⟩, ?_⟩
    rintro i m Hi ⟨rfl, hi', Bi, le, hb, hh⟩
    have hsq : SqT K Hi a (xs.map V.int) := Evl.ex_t (le.b.trans le.h) hs
    by_cases hlt : i < xs.length
    · have hx : xs[i]? = some xs[i] := List.getElem?_eq_getElem hlt
      have hy : (xs.map V.int)[i]? = some (.int xs[i]) := by rw [List.getElem?_map, hx]; rfl
      have htk : xs.take (i + 1) = xs.take i ++ [xs[i]] := by rw [List.take_add_one, hx]; rfl
      have hbound : ∀ j, ((xs.take i).flatMap f ++ (f xs[i]).take j).length ≤ 100000 := fun j => by
        have e1 : xs.flatMap f = (xs.take i).flatMap f ++ (f xs[i] ++ (xs.drop (i + 1)).flatMap f) := by
          have : xs = xs.take i ++ (xs[i] :: xs.drop (i + 1)) := by rw [List.getElem_cons_drop, List.take_append_drop]
          conv => lhs; rw [this]
          rw [List.flatMap_append, List.flatMap_cons]
        rw [e1, List.length_append, List.length_append] at hsz
        rw [List.length_append, List.length_take]
        omega
      refine .inr ⟨⟨_, _, hsq, hy⟩, fun Hn => ∃ Bi, Le [] B1 H1 Bi Hn ∧ Bi D = none ∧ Hn D = some (.lst (((xs.take (i + 1)).flatMap f).map V.int)), fun Hn p' => ⟨xs.length - (i + 1), by omega, rfl, hlt, p'⟩, fun x Hy y => ?_⟩
      obtain ⟨rfl, y⟩ := y
      have ex : x = .int xs[i] := Option.some.inj ((y _ hsq).symm.trans hy)
      subst ex
      refine ⟨hw _, yes_i ?_⟩
      rw [if_pos rfl]
      refine hi xs[i] Bi Hy (l0.trans (l1.trans le)) (List.getElem_mem hlt) Bi Hy (Le.refl le.h) _ fun u2 B2 H2 l2 hu2 => ?_
      have b2 := l2.own hh hb
      have hh2 := l2.k D _ (by simp) hh
      cases hu2 with
      | tup hs2 hq2 =>
        rename_i a2 ys2
        cases ofInts hq2
        refine ⟨a2, rfl, ⟨_, Evl.ex_t l2.h hs2⟩, fun j kk Hj => kk = (f xs[i]).length - j ∧ j ≤ (f xs[i]).length ∧ ∃ Bj, Le [D] B2 H2 Bj Hj ∧ Bj D = none ∧ Hj D = some (.lst (((xs.take i).flatMap f ++ (f xs[i]).take j).map V.int)), ⟨_, rfl, Nat.zero_le _, B2, Le.refl l2.h, b2, by rw [List.take_zero, List.append_nil]; exact hh2⟩, ?_⟩
        rintro j kk Hj ⟨rfl, hj, Bj, lj, bj, hj2⟩
        have hsq2 : SqT K Hj a2 ((f xs[i]).map V.int) := Evl.ex_t (lj.b.trans lj.h) hs2
        by_cases hlt2 : j < (f xs[i]).length
        · have hz : (f xs[i])[j]? = some (f xs[i])[j] := List.getElem?_eq_getElem hlt2
          have hzv : ((f xs[i]).map V.int)[j]? = some (.int (f xs[i])[j]) := by rw [List.getElem?_map, hz]; rfl
          refine .inr ⟨⟨_, _, hsq2, hzv⟩, fun Hn => ∃ Bj, Le [D] B2 H2 Bj Hn ∧ Bj D = none ∧ Hn D = some (.lst (((xs.take i).flatMap f ++ (f xs[i]).take (j + 1)).map V.int)), fun Hn p' => ⟨(f xs[i]).length - (j + 1), by omega, rfl, hlt2, p'⟩, fun x2 Hy2 y2 => ?_⟩
          obtain ⟨rfl, y2⟩ := y2
          have ex3 : x2 = .int (f xs[i])[j] := Option.some.inj ((y2 _ hsq2).symm.trans hzv)
          subst ex3
          refine ⟨hw1 _ _, yes_i ?_⟩
          rw [if_pos rfl]
          refine ⟨.int (f xs[i])[j], hg _ _, _, hj2, ?_, Bj, lj.trans (Le.put lj.h bj (by simp)), bj, ?_⟩
          · have := hbound j
            rw [List.length_map]
            omega
          · rw [upd_same, List.take_add_one, hz]
            simp only [List.map_append, Option.toList, List.map_cons, List.map_nil, List.append_assoc]
        · refine .inl ⟨⟨_, hsq2, by rw [List.length_map]; omega⟩, ?_⟩
          have ej : j = (f xs[i]).length := by omega
          subst ej
          refine ⟨Bj, (le.any.trans (l2.any.trans lj)).local hD, bj, ?_⟩
          rw [hj2, List.take_length, htk, List.flatMap_append, List.flatMap_cons, List.flatMap_nil, List.append_nil]
    · have ei : i = xs.length := by omega
      subst ei
      refine .inl ⟨⟨_, hsq, by rw [List.length_map]; exact Nat.le_refl _⟩, ?_⟩
      rw [List.take_length] at hh
      have lg := le.give hD hb hh
      exact q (.ref D) _ Hi (l1.trans lg) (.lst upd_same (dqInts _))
end
end MA

set_option maxRecDepth 100000
set_option maxHeartbeats 2000000
namespace MA
open PySem PySem.Spec PyProof.Rows L2
/-! ## == of rows of ints -/
section
variable {K : PySem.W.Frag} {H : Hp}
theorem dpInts : ∀ ns : List Int, DpAll K H (ns.map V.int) (ns.map PyData.int)
  | [] => .nil
  | n :: r => .cons (.int n) (dpInts r)
theorem lay_ints : ∀ ns : List Int, PyData.canLayAll0 (ns.map PyData.int) = true
  | [] => rfl
  | n :: r => by
    show (PyData.canLay0 (.int n) && PyData.canLayAll0 (r.map PyData.int)) = true
    rw [lay_ints r]
    rfl
theorem depth_ints : ∀ ns : List Int, PyData.depthAll (ns.map PyData.int) = 0
  | [] => rfl
  | n :: r => by
    show max (PyData.depth (.int n)) (PyData.depthAll (r.map PyData.int)) = 0
    rw [depth_ints r]
    rfl
theorem shaped_T (ns : List Int) : SeqAt.shaped (.tuple (ns.map PyData.int)) = true := by
  show (PyData.canLayAll0 (ns.map PyData.int) && decide (PyData.depthAll (ns.map PyData.int) + 1 ≤ 64)) = true
  rw [lay_ints, depth_ints]
  rfl
theorem shaped_L (ns : List Int) : SeqAt.shaped (.list (ns.map PyData.int)) = true := by
  show (PyData.canLayAll0 (ns.map PyData.int) && decide (PyData.depthAll (ns.map PyData.int) + 1 ≤ 64)) = true
  rw [lay_ints, depth_ints]
  rfl
theorem eqv_ints : ∀ as bs : List Int, PyData.eqvAll (as.map PyData.int) (bs.map PyData.int) = decide (as = bs)
  | [], [] => by simp [PyData.eqvAll]
  | [], _ :: _ => by simp [PyData.eqvAll]
  | _ :: _, [] => by simp [PyData.eqvAll]
  | a :: as, b :: bs => by
    show (PyData.eqv (.int a) (.int b) && PyData.eqvAll (as.map PyData.int) (bs.map PyData.int)) = _
    rw [eqv_ints as bs]
    have : PyData.eqv (.int a) (.int b) = decide (a = b) := by
      show (a == b) = _
      by_cases z : a = b <;> simp [z]
    rw [this]
    by_cases z : a = b <;> by_cases y : as = bs <;> simp [z, y]
theorem rv_eqTD {as bs : List Int} : RV K (rEqD K) (.tuple (as.map PyData.int)) (.tuple (bs.map PyData.int)) (.bool (decide (as = bs))) := fun B H v u e hv hu Q q => by
  cases hv with
  | tup h1 q1 =>
    cases hu with
    | tup h2 q2 =>
      cases ofInts q1
      cases ofInts q2
      refine ⟨.tuple (as.map PyData.int), .tuple (bs.map PyData.int), .tup (Evl.ex_t e h1) (dpInts _), .tup (Evl.ex_t e h2) (dpInts _), shaped_T _, shaped_T _, ?_⟩
      rw [show PyData.eqv (.tuple (as.map PyData.int)) (.tuple (bs.map PyData.int)) = decide (as = bs) from by simp only [PyData.eqv]; exact eqv_ints as bs]
      exact q _ B H (Le.refl e) (.bl _)
theorem rv_neTD {as bs : List Int} : RV K (rNeD K) (.tuple (as.map PyData.int)) (.tuple (bs.map PyData.int)) (.bool (!decide (as = bs))) := fun B H v u e hv hu Q q => by
  cases hv with
  | tup h1 q1 =>
    cases hu with
    | tup h2 q2 =>
      cases ofInts q1
      cases ofInts q2
      refine ⟨.tuple (as.map PyData.int), .tuple (bs.map PyData.int), .tup (Evl.ex_t e h1) (dpInts _), .tup (Evl.ex_t e h2) (dpInts _), shaped_T _, shaped_T _, ?_⟩
      rw [show PyData.eqv (.tuple (as.map PyData.int)) (.tuple (bs.map PyData.int)) = decide (as = bs) from by simp only [PyData.eqv]; exact eqv_ints as bs]
      exact q _ B H (Le.refl e) (.bl _)
theorem rv_eqLD {as bs : List Int} : RV K (rEqD K) (.list (as.map PyData.int)) (.list (bs.map PyData.int)) (.bool (decide (as = bs))) := fun B H v u e hv hu Q q => by
  cases hv with
  | lst h1 q1 =>
    cases hu with
    | lst h2 q2 =>
      cases ofInts q1
      cases ofInts q2
      refine ⟨.list (as.map PyData.int), .list (bs.map PyData.int), .lst (.inl (.inl (e _ _ h1))) (dpInts _), .lst (.inl (.inl (e _ _ h2))) (dpInts _), shaped_L _, shaped_L _, ?_⟩
      rw [show PyData.eqv (.list (as.map PyData.int)) (.list (bs.map PyData.int)) = decide (as = bs) from by simp only [PyData.eqv]; exact eqv_ints as bs]
      exact q _ B H (Le.refl e) (.bl _)
theorem rv_neLD {as bs : List Int} : RV K (rNeD K) (.list (as.map PyData.int)) (.list (bs.map PyData.int)) (.bool (!decide (as = bs))) := fun B H v u e hv hu Q q => by
  cases hv with
  | lst h1 q1 =>
    cases hu with
    | lst h2 q2 =>
      cases ofInts q1
      cases ofInts q2
      refine ⟨.list (as.map PyData.int), .list (bs.map PyData.int), .lst (.inl (.inl (e _ _ h1))) (dpInts _), .lst (.inl (.inl (e _ _ h2))) (dpInts _), shaped_L _, shaped_L _, ?_⟩
      rw [show PyData.eqv (.list (as.map PyData.int)) (.list (bs.map PyData.int)) = decide (as = bs) from by simp only [PyData.eqv]; exact eqv_ints as bs]
      exact q _ B H (Le.refl e) (.bl _)
end
/-! ## for k, x in d.items(), d made on the way: the dict is locked behind its making, for good -/
def iItemsL (td : TE) : TI := fun σ H R => td σ H fun x H1 => ∃ d kvs, x = .ref d ∧ H1 d = some (.dK kvs) ∧ ∀ od, R (Iti d od kvs) (upd H1 d (.frz od (.dK kvs)))
theorem pi_itemsL {X : Cx} {e : Expr} {td : TE} {apos cpos : Pos} {elts : List Expr} {kk : Nat} {tpos : Pos} (he : PE X e td) (hbase : attributeBase e "items" X.env (eval e X.env) = eval e X.env := by rfl) (hline : (apos.endLine == cpos.line) = true := by rfl) :
    PI X (.Tuple elts kk tpos) (.Call (.Attribute e "items" apos) [] [] cpos) (iItemsL td) := by
  refine ⟨fun pins s σ H R I h => ?_⟩
  refine wpAny_Call_method (T := "dict") (id := "dict.items") hbase rfl hline PySem.F.plainAttrs_dict PySem.F.slot_dict_items PySem.F.type_dict_items (thn (he.run pins s σ H _ I h) fun u s1 ⟨x, H1, I1, rx, d, kvs, ex, hd, q⟩ => ?_)
  subst ex
  obtain rfl : u = Value.ref d := rx
  obtain ⟨od, IL⟩ := I1.lock hd trivial
  have hdL : (upd H1 d (.frz od (.dK kvs))) d = some (.frz od (.dK kvs)) := upd_same
  obtain ⟨hs, hgd, hx, es, ep, vs, hdt, hsz, kv, hm⟩ := IL.frzK hdL
  have hl : kvs.length = vs.length := Paired.length kv
  refine ⟨hm.dictOf.typeIs, hm.dictOf.mapOf.noDict, ?_⟩
  have I2 : Inv X pins σ (upd H1 d (.frz od (.dK kvs))) { s1 with heap := s1.heap.push { cls := .type "dict_items", data := .fields #[.ref d] } } := IL.kept (t' := s1.toks) fun b ob q => Heap.get?_push_of_some _ q
  have fin : wpAny (model X.prog X.w) X.A (pyIter (.ref s1.heap.objs.size)) (PIE X pins σ (.Tuple elts kk tpos) R) X.xe { s1 with heap := s1.heap.push { cls := .type "dict_items", data := .fields #[.ref d] } } := by
    refine wpAny_pyIter_items (d := d) (knd := mixKind X.prog X.w) ⟨_, Heap.get?_push_size _ rfl, rfl, rfl⟩ (hm.push _) (pi_one (tk := s1.toks) I2 _ (turn_items _ hdt) ⟨.none, .none, ?_⟩ (q od))
    rw [hl]
    exact Heap.get?_push_size _ rfl
  show wpAny _ _ (callWith cpos (.builtin "dict.items") [.ref d] [] []) _ X.xe s1
  exact method_meetsIn PySem.F.slot_dict_items PySem.F.entry_dict_items rfl (PySem.evalArgs_none ⟨rfl, hm.dictOf.typeIs, PySem.F.args_dict_items_1 _, _, meets_dict_items (mixKind X.prog X.w) d hs, ⟨vs, hm.dictOf⟩, fin⟩)
theorem Dq.off {K : PySem.W.Frag} {B : Hp} {d : Addr} {kvs : List (Key × V)} {v : V} {ns : List Int} (h : Dq K B v (.tuple (ns.map PyData.int))) (hd : B d = some (.dK kvs)) : Dq K (dropB B d) v (.tuple (ns.map PyData.int)) := by
  cases h with
  | tup hs hq =>
    rename_i a xs
    cases ofInts hq
    refine .tup ?_ (dqInts _)
    have ne : ∀ o, B a = some o → (∀ l, o ≠ .dK l) → dropB B d a = some o := fun o ho hn => by
      have : a ≠ d := fun z => by rw [z, hd] at ho; cases ho; exact hn _ rfl
      show (if a = d then none else B a) = some o
      rw [if_neg this]
      exact ho
    rcases hs with (h | ⟨od, h⟩) | h
    · exact .inl (.inl (ne _ h fun l z => by cases z))
    · exact .inl (.inr ⟨od, ne _ h fun l z => by cases z⟩)
    · exact .inr h
theorem DqAll.off {K : PySem.W.Frag} {B : Hp} {d : Addr} {kvs : List (Key × V)} {m : Int → List Int} (hd : B d = some (.dK kvs)) : ∀ {vs : List V} {ns : List Int}, DqAll K B vs (ns.map fun n => .tuple ((m n).map PyData.int)) → DqAll K (dropB B d) vs (ns.map fun n => .tuple ((m n).map PyData.int))
  | _, [], h => by cases h; exact .nil
  | _, n :: ns, h => by
    cases h with
    | cons h q => exact .cons (h.off hd) (DqAll.off hd q)
theorem zip_parts : ∀ {kvs : List (Key × V)} {ds : List PyData} {ns : List Int} {F : Int → PyData}, kvs.length = ds.length → zipK kvs ds = ns.map (fun n => (PyData.int n, F n)) → kvs.map (·.1) = ns.map Sum.inl ∧ ds = ns.map F
  | [], [], ns, F, _, e => by
    cases ns with
    | nil => exact ⟨rfl, rfl⟩
    | cons _ _ => cases e
  | (k', v) :: kvs, d :: ds, [], F, _, e => by cases e
  | (k', v) :: kvs, d :: ds, n :: ns, F, h, e => by
    have e1 : (kD k', d) = (PyData.int n, F n) := (List.cons.inj e).1
    obtain ⟨r1, r2⟩ := zip_parts (kvs := kvs) (ds := ds) (ns := ns) (F := F) (by simpa using h) (List.cons.inj e).2
    have ek : k' = .inl n := by
      cases k' with
      | inl i => exact congrArg _ (PyData.int.inj (Prod.mk.inj e1).1)
      | inr s => cases (Prod.mk.inj e1).1
    exact ⟨by rw [List.map_cons, List.map_cons, r1, ek], by rw [List.map_cons, r2, (Prod.mk.inj e1).2]⟩
  | [], _ :: _, _, _, h, _ => by simp at h
  | _ :: _, [], _, _, h, _ => by simp at h
section
variable {K : PySem.W.Frag} {σ : L2.St} {B H : Hp} {td : TE} {D : Ends} {tb tz : TS}
theorem q_forItems {ns : List Int} {m : Int → List Int} {i1 i2 : Nat} (hl : EvN K td σ B H (effM ns fun n => .tuple ((m n).map PyData.int))) (e : Ex B H) (I : Nat → L2.St → Prop) (h0 : I 0 σ)
    (hs : ∀ (i : Nat) (n : Int) (y : V) σ' B' H' N, Le [] B H B' H' → ns[i]? = some n → Dq K B' y (.tuple ((m n).map PyData.int)) → I i σ' → (∀ σ3 B3 H3, Le [] B' H' B3 H3 → I (i + 1) σ3 → N σ3 H3) →
      tb { D with nx := N, ct := N, bk := tz D } ((σ'.set i1 (some (.int n))).set i2 (some y)) H')
    (hd : ∀ σ' B' H', Le [] B H B' H' → I ns.length σ' → tz D σ' H') : tSeq (tFor (iItemsL td) (gTup K 2 (gCons (gName i1) (gCons (gName i2) gNil))) tb) tz D σ H := by
  refine hl B H (Le.refl e) _ fun u B1 H1 l1 hn hu => ?_
  obtain ⟨d, rfl, hdn⟩ := hn
  unfold effM at hu
  generalize hE : ns.map (fun n => (PyData.int n, PyData.tuple ((m n).map PyData.int))) = L at hu
  cases hu with
  | dct h hq =>
    rename_i kvs ds
    obtain ⟨z1, z2⟩ := zip_parts (by have := hq.length; rwa [List.length_map] at this) hE.symm
    subst z2
    have hq1 := DqAll.off h hq
    obtain ⟨ld, dn⟩ := l1.drop e hdn
    refine ⟨d, kvs, rfl, l1.h _ _ h, fun od => ?_⟩
    have lf : Le [] B H (dropB B1 d) (upd H1 d (.frz od (.dK kvs))) := ((ld.wk (by simp)).trans (Le.put (M := [d]) ld.h dn (by simp))).local hdn
    have W := walk_items (d := d) (o := od) (kvs := kvs)
    have hlen : kvs.length = ns.length := by have := congrArg List.length z1; rwa [List.length_map, List.length_map] at this
    refine for_it W (fun i σ' H' => ∃ B', Le [] (dropB B1 d) (upd H1 d (.frz od (.dK kvs))) B' H' ∧ I i σ') ⟨_, Le.refl lf.h, h0⟩ (fun i σ' H' _ p => ?_) (fun i x σ' H' H2 hi p y => ?_) (fun σ' H' p => ?_)
    · obtain ⟨B', l, _⟩ := p
      exact l.k d _ (by simp) upd_same
    · obtain ⟨B', l, hI⟩ := p
      obtain ⟨T, x1, x2, rfl, hT, rfl, f1, f2⟩ := y
      have hn : ns[i]? = some ns[i] := List.getElem?_eq_getElem (by omega)
      obtain ⟨⟨k0, v0⟩, hkv⟩ : ∃ p, kvs[i]? = some p := ⟨kvs[i], List.getElem?_eq_getElem hi⟩
      have ek : k0 = .inl ns[i] := by
        have := congrArg (fun l => l[i]?) z1
        simp only [List.getElem?_map, hkv, hn, Option.map_some] at this
        exact Option.some.inj this
      have e1 : x1 = .int ns[i] := by
        have f1' : (kvs[i]?.map fun kv => kV kv.1) = some x1 := f1
        rw [hkv, ek] at f1'
        exact (Option.some.inj f1').symm
      have e2 : x2 = v0 := by
        have f2' : (kvs[i]?.map Prod.snd) = some x2 := f2
        rw [hkv] at f2'
        exact (Option.some.inj f2').symm
      subst e1 e2
      have hy : Dq K (dropB B1 d) x2 (.tuple ((m ns[i]).map PyData.int)) := by
        obtain ⟨d', hd', hx⟩ := hq1.get (i := i) (v := x2) (by rw [List.getElem?_map, hkv]; rfl)
        rw [List.getElem?_map, hn] at hd'
        cases hd'
        exact hx
      have ln := Le.new (M := []) (o := .tup [.int ns[i], x2]) l.h hT
      refine ⟨T, [.int ns[i], x2], rfl, .inl (.inl upd_same), rfl, .int ns[i], [x2], rfl, x2, [], rfl, rfl, ?_⟩
      exact hs i ns[i] x2 σ' _ _ _ (lf.trans (l.trans ln)) hn ((hy.mono l.b).mono ln.b) hI fun σ3 B3 H3 l3 hI3 => ⟨B3, (l.trans ln).trans l3, hI3⟩
    · obtain ⟨B', l, hI⟩ := p
      rw [hlen] at hI
      exact hd σ' B' H' (lf.trans l) hI
end
end MA

set_option maxRecDepth 100000
set_option maxHeartbeats 2000000
namespace MA
open PySem PySem.Spec PyProof.Rows L2
section
variable {K : PySem.W.Frag} {σ : L2.St} {B H : Hp} {te tn : TE} {tt : TT}
/-- [.. for k in range(n) if ..] -/
theorem ev_lcR {n : Nat} {j : Nat} {vs : List Nat} (f : Nat → Bool) (g : Nat → PyData) (h : Ev K tn σ B H (.int (n : Nat))) (hz : n ≤ 100000)
    (ht : ∀ (i : Nat) B1 H1, Le [] B H B1 H1 → i < n → EvT tt ((wipe σ vs).set j (some (.int (i : Nat)))) B1 H1 (f i))
    (he : ∀ (i : Nat) B1 H1, Le [] B H B1 H1 → i < n → f i = true → Ev K te ((wipe σ vs).set j (some (.int (i : Nat)))) B1 H1 (g i))
    (hw : ∀ x, wipe ((wipe σ vs).set j (some x)) vs = wipe σ vs := by intro _; rfl) :
    Ev K (tLc (iRng1 (tCons tn tNil)) (gName j) tt te vs) σ B H (.list (picked f g n)) := fun B0 H0 l0 Q q => by
  refine h B0 H0 l0 _ fun u B1 H1 l1 hu => ?_
  cases hu
  refine ⟨(n : Nat), rfl, by omega, by omega, fun D hD => ?_⟩
  rw [show ((n : Nat) : Int).toNat = n by omega]
  have hB := none_of l1.h hD
  refine lc_range (lo := 0) (n := n) (Lw K B1 H1 D f g) ⟨B1, [], Le.made l1.h hD, hB, upd_same, .nil⟩ (fun i Hi hi p => ⟨hw _, ?_⟩) fun Hi p => ?_
  · rw [Int.zero_add]
    exact Lw.turn hD p (by omega) (fun Bi l => ht i Bi Hi (l0.trans (l1.trans l)) hi) fun Bi Hj l hf => he i Bi Hj (l0.trans (l1.trans l)) hi hf
  · obtain ⟨Bi, acc, l, hb, hh, hq2⟩ := p
    have lg := l.give hD hb hh
    exact q (.ref D) _ Hi (l1.trans lg) (.lst upd_same (hq2.mono (Evl.Ex.new hb)))
end
theorem find_first {p : Int → Bool} : ∀ {ns : List Int} {k : Nat} {n : Int}, ns[k]? = some n → p n = true → (∀ x ∈ ns.take k, p x = false) → ns.find? p = some n
  | [], k, n, h, _, _ => by simp at h
  | a :: ns, 0, n, h, hp, _ => by
    simp at h
    subst h
    rw [List.find?_cons, hp]
  | a :: ns, k + 1, n, h, hp, hx => by
    rw [List.find?_cons, hx a (by simp)]
    exact find_first (k := k) (by simpa using h) hp fun x hx' => hx x (by rw [List.take_succ_cons]; exact List.mem_cons_of_mem _ hx')
end MA

set_option maxRecDepth 100000
set_option maxHeartbeats 2000000
namespace MA
open PySem PySem.Spec PyProof.Rows L2
section
variable {K : PySem.W.Frag} {σ : L2.St} {B H : Hp} {tl te : TE} {tt : TT} {D : Ends} {tz : TS}
/-- row = [x for x in t if x != k], the row ours -/
theorem q_rowLc {xs : List Int} {k : Int} {i j l : Nat} {vs : List Nat} (hl : Ev K tl σ B H (.tuple (xs.map PyData.int))) (e : Ex B H) (hz : xs.length ≤ 100000) (hk : ∀ x, ((wipe σ vs).set j (some x))[l]? = some (some (.int k)))
    (q : ∀ p H', Le [] B H B H' → H p = none → B p = none → H' p = some (.lst ((xs.filter fun x => !decide (x = k)).map V.int)) → tz D (σ.set i (some (.ref p))) H')
    (hj : ∀ x, ((wipe σ vs).set j (some x))[j]? = some (some x) := by intro _; rfl) (hw : ∀ x, wipe ((wipe σ vs).set j (some x)) vs = wipe σ vs := by intro _; rfl) :
    tSeq (tAsg (tLc (iTup K tl) (gName j) (tTest (tOp (rNeA K) (tVar j) (tVar l))) (tVar j) vs) (gName i)) tz D σ H := by
  refine hl B H (Le.refl e) _ fun u B1 H1 l1 hu => ?_
  cases hu with
  | tup hs hq =>
    rename_i a ys
    cases ofInts hq
    have hsl : 100000 < sizeLine := by rw [sizeLine_eq]; decide
    refine ⟨a, rfl, ⟨_, Evl.ex_t l1.h hs⟩, fun D' hD => ?_⟩
    have hb := none_of l1.h hD
    have hD0 : H D' = none := l1.back hD
    refine lc_tup (xs := xs.map V.int) (fun i Hi => ∃ Bi, Le [] B1 H1 Bi Hi ∧ Bi D' = none ∧ Hi D' = some (.lst (((xs.take i).filter fun x => !decide (x = k)).map V.int))) ⟨B1, Le.made l1.h hD, hb, upd_same⟩ (fun i Hi _ p => ?_) (fun i x Hi hi p => ⟨hw x, ?_⟩) (fun Hi p => ?_)
    · obtain ⟨Bi, le, _⟩ := p
      exact Evl.ex_t (le.b.trans le.h) hs
    · obtain ⟨Bi, le, hbi, hh⟩ := p
      rw [List.getElem?_map] at hi
      cases hx : xs[i]? with
      | none => rw [hx] at hi; cases hi
      | some n =>
        rw [hx] at hi
        cases hi
        have htk : xs.take (i + 1) = xs.take i ++ [n] := by rw [List.take_add_one, hx]; rfl
        have hlen : ((xs.take i).filter fun x => !decide (x = k)).length ≤ 100000 := Nat.le_trans (List.length_filter_le _ _) (by rw [List.length_take]; omega)
        refine (et_test (ev_op (K := K) (σ := (wipe σ vs).set j (some (.int n))) (B := Bi) (H := Hi) (ev_var (hj _) (.int n)) (ev_var (hk _) (.int k)) rv_neI)) Bi Hi (Le.refl le.h) _ fun B2 H2 l2 => ?_
        have h2 := l2.k D' _ (by simp) hh
        have b2 := l2.own hh hbi
        by_cases z : n = k
        · rw [if_neg (by simp [z])]
          refine ⟨B2, le.trans l2, b2, ?_⟩
          rw [h2, htk, List.filter_append]
          simp [z]
        · rw [if_pos (by simp [z])]
          refine ⟨.int n, hj _, _, h2, by rw [List.length_map]; omega, B2, ?_, b2, ?_⟩
          · exact ((le.any.trans l2.any).trans (Le.put (M := [D']) l2.h b2 (by simp))).local hD
          · rw [upd_same, htk, List.filter_append]
            simp [z]
    · obtain ⟨Bi, le, hbi, hh⟩ := p
      rw [List.length_map, List.take_length] at hh
      -- the world as it was: what was learnt on the way is let go
      have ll := l1.trans le
      refine q D' Hi ⟨Ex.refl B, fun x o h => ll.h x o (ll.b x o h), ll.k, ll.t, fun x h1 h2 => absurd h1 h2⟩ hD0 (none_of e hD0) hh
end
/-! dicts that are ours: int keys, rows -/
section
variable {K : PySem.W.Frag} {σ : L2.St} {B H : Hp} {td ty : TE} {p : Addr}
theorem kvs_val {ns : List Int} {ys : List V} {t : Nat} {n : Int} {y : V} (hn : ns.Nodup) (h1 : ns[t]? = some n) (h2 : ys[t]? = some y) : valV (kvsOf ns ys) (.inl n : Key) = some y := by
  induction ns generalizing ys t with
  | nil => simp at h1
  | cons a ns ih =>
    cases ys with
    | nil => simp at h2
    | cons b ys =>
      cases t with
      | zero =>
        simp at h1 h2
        subst h1 h2
        exact valV_pos rfl
      | succ t =>
        have h1' : ns[t]? = some n := by simpa using h1
        have hne : a ≠ n := fun z => by
          subst z
          exact (List.nodup_cons.mp hn).1 (List.mem_of_getElem? h1')
        have : valV (kvsOf (a :: ns) (b :: ys)) (.inl n : Key) = valV (kvsOf ns ys) (.inl n) := by
          unfold valV
          show ((((Sum.inl a : Key), b) :: kvsOf ns ys).find? _).map _ = _
          rw [List.find?_cons]
          simp [hne]
        rw [this]
        exact ih (List.nodup_cons.mp hn).2 h1' (by simpa using h2)
theorem kvs_put {ns : List Int} {ys : List V} {t : Nat} {n : Int} {y : V} (hn : ns.Nodup) (hl : ns.length = ys.length) (h1 : ns[t]? = some n) : putK (kvsOf ns ys) (.inl n : Key) y = kvsOf ns (ys.set t y) := by
  have ht : t < ns.length := (List.getElem?_eq_some_iff.mp h1).1
  have key : ∀ {ns : List Int} {ys : List V} {t : Nat}, ns.Nodup → ns.length = ys.length → ns[t]? = some n → (kvsOf ns ys).map (fun kv => if kv.1 = (Sum.inl n : Key) then (kv.1, y) else kv) = kvsOf ns (ys.set t y) := by
    intro ns
    induction ns with
    | nil => intro ys t _ _ h; simp at h
    | cons a ns ih =>
      intro ys t hn hl h
      cases ys with
      | nil => simp at hl
      | cons b ys =>
        have hl' : ns.length = ys.length := by simpa using hl
        cases t with
        | zero =>
          simp at h
          subst h
          have rest : (kvsOf ns ys).map (fun kv => if kv.1 = (Sum.inl a : Key) then (kv.1, y) else kv) = kvsOf ns ys := by
            rw [List.map_congr_left (g := id) fun kv hkv => ?_, List.map_id]
            obtain ⟨⟨x, z⟩, hxz, rfl⟩ := List.mem_map.mp hkv
            have hx := (List.of_mem_zip hxz).1
            have : x ≠ a := fun e => (List.nodup_cons.mp hn).1 (e ▸ hx)
            simp [this]
          show (if (Sum.inl a : Key) = Sum.inl a then ((Sum.inl a : Key), y) else (Sum.inl a, b)) :: (kvsOf ns ys).map _ = _
          rw [if_pos rfl, rest]
          rfl
        | succ t =>
          have h' : ns[t]? = some n := by simpa using h
          have hne : a ≠ n := fun z => by
            subst z
            exact (List.nodup_cons.mp hn).1 (List.mem_of_getElem? h')
          show (if (Sum.inl a : Key) = Sum.inl n then ((Sum.inl a : Key), y) else (Sum.inl a, b)) :: (kvsOf ns ys).map _ = _
          rw [if_neg (fun e => hne (Sum.inl.inj e)), ih (List.nodup_cons.mp hn).2 hl' h']
          rfl
  unfold putK
  rw [if_pos ?_, key hn hl h1]
  rw [List.any_eq_true]
  have hy : ys[t]? = some ys[t] := List.getElem?_eq_getElem (by omega)
  have hn' : ns[t]'ht = n := (List.getElem?_eq_some_iff.mp h1).2
  refine ⟨(.inl n, ys[t]), List.mem_map.mpr ⟨(n, ys[t]), ?_, rfl⟩, by simp⟩
  rw [← hn']
  exact List.mem_iff_getElem.mpr ⟨t, by rw [List.length_zip]; omega, by rw [List.getElem_zip]⟩
/-- d[k] of a dict of ours -/
theorem ev_dgetOwn {ns : List Int} {ys : List V} {t i j : Nat} {n : Int} {y : V} {d : PyData} (hi : σ[i]? = some (some (.ref p))) (hj : σ[j]? = some (some (.int n))) (hp : H p = some (.dK (kvsOf ns ys))) (hn : ns.Nodup) (h1 : ns[t]? = some n) (h2 : ys[t]? = some y) (hd : Dq K B y d) : Ev K (tDGet (tVar i) (tVar j)) σ B H d := fun B1 H1 l Q q => by
  have g := DGet.k (k := (.inl n : Key)) (l.k p _ (by simp) hp)
  rw [kvs_val hn h1 h2] at g
  exact ⟨.ref p, hi, .int n, hj, p, y, rfl, g, q y B1 H1 (Le.refl l.h) (hd.mono l.b)⟩
end
theorem merge_new : ∀ {ns : List Int} {ys : List V} {acc : List (Key × V)}, ns.Nodup → (∀ n ∈ ns, (acc.any fun kv => decide (kv.1 = (Sum.inl n : Key))) = false) → ns.length = ys.length → mergeK acc (kvsOf ns ys) = acc ++ kvsOf ns ys
  | [], [], acc, _, _, _ => (List.append_nil _).symm
  | n :: ns, y :: ys, acc, hn, ha, hl => by
    show mergeK (putK acc (Sum.inl n) y) (kvsOf ns ys) = _
    have e : putK acc (Sum.inl n : Key) y = acc ++ [(Sum.inl n, y)] := by
      unfold putK
      rw [ha n (List.mem_cons_self ..), if_neg (by decide)]
    rw [e, merge_new (List.nodup_cons.mp hn).2 (fun m hm => ?_) (by simpa using hl), List.append_assoc]
    · rfl
    · rw [List.any_append, ha m (List.mem_cons_of_mem _ hm)]
      have : n ≠ m := fun z => (List.nodup_cons.mp hn).1 (z ▸ hm)
      simp [this]
  | [], _ :: _, _, _, _, h => by simp at h
  | _ :: _, [], _, _, _, h => by simp at h
theorem pairs_of {K : PySem.W.Frag} {B : Hp} {F : Int → PyData} : ∀ {ns : List Int} {xs : List V}, DqAll K B xs (ns.map fun n => .tuple [.int n, F n]) → ∃ ps ys, xs = ps.map V.ref ∧ ns.length = ys.length ∧ DqAll K B ys (ns.map F) ∧ Paired (fun p kv => SqT K B p [kV kv.1, kv.2]) ps (kvsOf ns ys)
  | [], _, h => by
    cases h
    exact ⟨[], [], rfl, rfl, .nil, .nil⟩
  | n :: ns, _, h => by
    cases h with
    | cons h q =>
      obtain ⟨ps, ys, e1, e2, e3, e4⟩ := pairs_of q
      cases h with
      | tup hs hq =>
        obtain ⟨x, y, e5, hx, hy⟩ := dq2 hq
        subst e5
        cases hx
        exact ⟨_ :: ps, y :: ys, by rw [e1]; rfl, by simp [e2], .cons hy e3, .cons hs e4⟩
theorem flatMap_filter {m : Int → List Int} {i : Int} (h : m i = []) : ∀ R : List Int, (R.filter fun x => !decide (x = i)).flatMap m = R.flatMap m
  | [] => rfl
  | a :: R => by
    by_cases z : a = i
    · subst z
      rw [List.filter_cons, if_neg (by simp), List.flatMap_cons, h, List.nil_append, flatMap_filter h R]
    · rw [List.filter_cons, if_pos (by simp [z]), List.flatMap_cons, List.flatMap_cons, flatMap_filter h R]
/-- a block under a command -/
theorem blk_step {b : Bool} {i j : Int} {L : List Int} (hj : L.count j ≤ 1) (hne : i ≠ j) :
    (if j ∈ (L.filter fun x => !decide (x = i)) then (L.filter fun x => !decide (x = i)).take ((L.filter fun x => !decide (x = i)).idxOf j + (if b then 1 else 0)) ++ [i] ++ (L.filter fun x => !decide (x = i)).drop ((L.filter fun x => !decide (x = i)).idxOf j + (if b then 1 else 0)) else (L.filter fun x => !decide (x = i))) = L.flatMap (cmdMap b i j) := by
  have m0 : cmdMap b i j i = [] := by unfold cmdMap; rw [if_pos rfl]
  have hi : i ∉ L.filter fun x => !decide (x = i) := fun m => by simp at m
  have hc : (L.filter fun x => !decide (x = i)).count j ≤ 1 := Nat.le_trans (List.Sublist.count_le _ List.filter_sublist) hj
  rw [← flatMap_filter m0 L]
  generalize (L.filter fun x => !decide (x = i)) = R at hi hc
  have self : ∀ {C : List Int}, i ∉ C → j ∉ C → C.flatMap (cmdMap b i j) = C := fun h1 h2 => flatMap_self fun a ha => by
    unfold cmdMap
    rw [if_neg (fun z : a = i => h1 (z ▸ ha)), if_neg (fun z : a = j => h2 (z ▸ ha))]
  by_cases z : j ∈ R
  · rw [if_pos z]
    have h1 : R.count j = 1 := by have := List.one_le_count_iff.mpr z; omega
    obtain ⟨A, B, e, a1, a2, a3⟩ := split_at h1
    have hA : i ∉ A := fun m => hi (by rw [e]; exact List.mem_append_left _ m)
    have hB : i ∉ B := fun m => hi (by rw [e]; exact List.mem_append_right _ (List.mem_cons_of_mem _ m))
    have mj : cmdMap b i j j = if b then [j, i] else [i, j] := by unfold cmdMap; rw [if_neg (Ne.symm hne), if_pos rfl]
    rw [a3, e, List.flatMap_append, List.flatMap_cons, self hA a1, self hB a2, mj]
    cases b with
    | true =>
      have t1 : (A ++ j :: B).take (A.length + 1) = A ++ [j] := by rw [List.take_append, List.take_of_length_le (by omega), Nat.add_sub_cancel_left]; rfl
      have t2 : (A ++ j :: B).drop (A.length + 1) = B := by rw [List.drop_append, List.drop_of_length_le (by omega), Nat.add_sub_cancel_left]; rfl
      simp only [if_true, t1, t2, List.append_assoc, List.cons_append, List.nil_append]
    | false =>
      have t1 : (A ++ j :: B).take (A.length + 0) = A := by rw [Nat.add_zero, List.take_left']; rfl
      have t2 : (A ++ j :: B).drop (A.length + 0) = j :: B := by rw [Nat.add_zero, List.drop_left']; rfl
      simp only [Bool.false_eq_true, if_false, t1, t2, List.append_assoc, List.cons_append, List.nil_append]
  · rw [if_neg z, self hi z]
section
variable {K : PySem.W.Frag} {σ : L2.St} {B H : Hp} {te : TE} {d : PyData} {D : Ends} {tz : TS}
theorem q_cb1 {r : List V → Hp → VK → Prop} {i : Nat} (h : Ev K te σ B H d) (e : Ex B H) (q : ∀ v B' H', Le [] B H B' H' → Dq K B' v d → r [v] H' fun u H2 => tz D (σ.set i (some u)) H2) : tSeq (tAsg (tCB r (tCons te tNil)) (gName i)) tz D σ H := h B H (Le.refl e) _ fun v B' H' l hv => q v B' H' l hv
theorem q_idxAdd {r : Addr} {R : List Int} {b x : Int} {i j l : Nat} (hi : σ[i]? = some (some (.ref r))) (hj : σ[j]? = some (some (.int b))) (hp : H r = some (.lst (R.map V.int))) (hk : b ∈ R) (hx : Ev K te σ B H (.int x)) (e : Ex B H)
    (q : ∀ B' H', Le [] B H B' H' → tz D (σ.set l (some (.int ((R.idxOf b : Nat) + x)))) H') : tSeq (tAsg (tOp (rAddA K) (tBM K "list" (rIndex K) (tVar i) (tCons (tVar j) tNil)) te) (gName l)) tz D σ H := by
  refine ⟨.ref r, hi, .inl ⟨rfl, _, .inl (.inl hp)⟩, .int b, hj, ?_⟩
  show rIndex K (.ref r) [.int b] H fun v H1 => te σ H1 fun w H2 => rAddA K v w H2 fun u H3 => tz D (σ.set l (some u)) H3
  refine idx_own hp hk ?_
  refine hx B H (Le.refl e) _ fun w B' H' l' hw => ?_
  cases hw
  exact .inl ⟨_, _, rfl, rfl, q B' H' l'⟩
end
theorem DqAll.set {K : PySem.W.Frag} {B : Hp} {v : V} {d : PyData} (h : Dq K B v d) : ∀ {ys : List V} {ds : List PyData} (t : Nat), DqAll K B ys ds → DqAll K B (ys.set t v) (ds.set t d)
  | _, _, _, .nil => .nil
  | _, _, 0, .cons _ q => .cons h q
  | _, _, t + 1, .cons a q => .cons a (DqAll.set h t q)
theorem mix_set {F G : Int → PyData} : ∀ {ns : List Int} {t : Nat} {n : Int}, ns[t]? = some n → ((ns.take t).map F ++ (ns.drop t).map G).set t (F n) = (ns.take (t + 1)).map F ++ (ns.drop (t + 1)).map G
  | [], t, n, h => by simp at h
  | a :: ns, 0, n, h => by
    simp at h
    subst h
    rfl
  | a :: ns, t + 1, n, h => by
    have h' : ns[t]? = some n := by simpa using h
    show (F a :: ((ns.take t).map F ++ (ns.drop t).map G)).set (t + 1) (F n) = F a :: ((ns.take (t + 1)).map F ++ (ns.drop (t + 1)).map G)
    rw [List.set_cons_succ, mix_set h']
theorem mix_get {F G : Int → PyData} : ∀ {ns : List Int} {t : Nat} {n : Int}, ns[t]? = some n → ((ns.take t).map F ++ (ns.drop t).map G)[t]? = some (G n)
  | [], t, n, h => by simp at h
  | a :: ns, 0, n, h => by
    simp at h
    subst h
    rfl
  | a :: ns, t + 1, n, h => by
    have h' : ns[t]? = some n := by simpa using h
    show (F a :: ((ns.take t).map F ++ (ns.drop t).map G))[t + 1]? = some (G n)
    rw [List.getElem?_cons_succ, mix_get h']
end MA

set_option maxRecDepth 100000
set_option maxHeartbeats 2000000
namespace PySem.W
open PySem PySem.Calls
namespace MCF
theorem entry_perm : entryFor table "math.perm" = some Builtin.«math.perm» := entryFor_of_tree (by kernel_rfl)
theorem kind_perm : builtinKind "math.perm" = none := by kernel_rfl
theorem plain_perm : plainId "math.perm" = true := by decide +kernel
theorem args_perm (a b : Value) : argsOk "math.perm" ⟨[a, b], []⟩ := by unfold argsOk; kernel_rfl
theorem run_perm (a : Int) (t : Tok) (b : Int) (u : Tok) (h0 : ¬a < 0) (h1 : ¬b < 0) (h2 : ¬b > a) (h3 : ¬b > Builtin.Math.maxSsize) (h4 : ¬b > Builtin.Math.manyFactors) (hsz : (Builtin.Math.fallingProduct a b.toNat).natAbs.log2 < bitsLine) :
    Gives (Builtin.«math.perm» ⟨[.int a t, .int b u], []⟩) (.int (Builtin.Math.fallingProduct a b.toNat)) :=
  .of_wp fun M A E s Q h => by obtain ⟨hp, g, d, tk, os⟩ := s; wp_walk; (try (refine wpAny_ite_false (decide_eq_false (Nat.not_le.mpr hsz)) ?_; wp_walk)); exact ⟨_, rfl, h⟩
end MCF
section
variable {prog : Program} {w : World} {A : Around} {E : Value → Shared → Prop} {s : Shared} {Q : Value → Shared → Prop} {a b : Int} {t u : Tok}
theorem xc_perm (h0 : ¬a < 0) (h1 : ¬b < 0) (h2 : ¬b > a) (h3 : ¬b > Builtin.Math.maxSsize) (h4 : ¬b > Builtin.Math.manyFactors) (hsz : (Builtin.Math.fallingProduct a b.toNat).natAbs.log2 < bitsLine)
    (h : Q (.int (Builtin.Math.fallingProduct a b.toNat) s.toks) { s with toks := s.toks + 1 }) : wpAny (model prog w) A (call (.builtin "math.perm") [.int a t, .int b u]) Q E s :=
  call_function_meets MCF.kind_perm MCF.plain_perm MCF.entry_perm (MCF.args_perm _ _) (MCF.run_perm a t b u h0 h1 h2 h3 h4 hsz).meets h
end
end PySem.W
namespace MA
open PySem PySem.Spec PyProof.Rows L2
section
variable {X : Cx}
/-! ## math.factorial, math.perm of small numbers; powers of great ones -/
def rFac : List V → Hp → VK → Prop := fun vs H Q => ∃ n : Int, vs = [.int n] ∧ (0 ≤ n ∧ n ≤ 20000 ∧ ((Builtin.Math.factorialNat n.toNat : Nat) : Int).natAbs.log2 < bitsLine) ∧ Q (.int ((Builtin.Math.factorialNat n.toNat : Nat) : Int)) H
theorem cr_fac : CallR X (.builtin "math.factorial") rFac := by
  intro pins s σ H vs us Q I r h
  obtain ⟨n, rfl, ⟨h0, h1, h2⟩, q⟩ := h
  obtain ⟨u, rfl, t, rfl⟩ := vals1 r
  exact PySem.W.mg_factorial (by unfold Builtin.Math.maxSsize; omega) (by omega) (by unfold Builtin.Math.manyFactors; omega) h2 ⟨.int _, H, I.tok _, ⟨_, rfl⟩, q⟩
def rPerm : List V → Hp → VK → Prop := fun vs H Q => ∃ n k : Int, vs = [.int n, .int k] ∧ (0 ≤ k ∧ k ≤ n ∧ k ≤ 20000 ∧ (Builtin.Math.fallingProduct n k.toNat).natAbs.log2 < bitsLine) ∧ Q (.int (Builtin.Math.fallingProduct n k.toNat)) H
theorem cr_perm : CallR X (.builtin "math.perm") rPerm := by
  intro pins s σ H vs us Q I r h
  obtain ⟨n, k, rfl, ⟨h0, h1, h2, h3⟩, q⟩ := h
  obtain ⟨t, u, rfl⟩ := Vals.int2 r
  exact PySem.W.xc_perm (by omega) (by omega) (by omega) (by unfold Builtin.Math.maxSsize; omega) (by unfold Builtin.Math.manyFactors; omega) h3 ⟨.int _, H, I.tok _, ⟨_, rfl⟩, q⟩
def CPowW (i j : Int) : Prop := 0 ≤ j ∧ (Builtin.Int.intBits i : Int) * j ≤ 2 ^ 27
theorem op_powW : OpR X (binaryOp .Pow) (rI CPowW fun i j => .int (i ^ j.toNat)) := opI fun _ _ _ _ _ _ _ hc q => pow_int hc.1 hc.2 q
theorem cpow {i j : Int} {k : Nat} (h : i.natAbs < 2 ^ k) (h0 : 0 ≤ j) (h1 : (k : Int) * j ≤ 2 ^ 27) : CPowW i j := by
  refine ⟨h0, Int.le_trans ?_ h1⟩
  have := intBits_le h
  exact Int.mul_le_mul_of_nonneg_right (by omega) h0
end
section
variable {K : PySem.W.Frag} {σ : L2.St} {B H : Hp} {D : Ends} {tb tz : TS} {gg : TG}
theorem rc_fac {n : Int} (h : 0 ≤ n ∧ n ≤ 20000 ∧ ((Builtin.Math.factorialNat n.toNat : Nat) : Int).natAbs.log2 < bitsLine) : RC K rFac [.int n] (.int ((Builtin.Math.factorialNat n.toNat : Nat) : Int)) := fun B H vs e hvs Q q => by
  obtain ⟨v, rfl, hv⟩ := dq1 hvs
  cases hv
  exact ⟨n, rfl, h, q _ B H (Le.refl e) (.int _)⟩
theorem rc_perm {n k : Int} (h : 0 ≤ k ∧ k ≤ n ∧ k ≤ 20000 ∧ (Builtin.Math.fallingProduct n k.toNat).natAbs.log2 < bitsLine) : RC K rPerm [.int n, .int k] (.int (Builtin.Math.fallingProduct n k.toNat)) := fun B H vs e hvs Q q => by
  obtain ⟨v, u, rfl, hv, hu⟩ := dq2 hvs
  cases hv
  cases hu
  exact ⟨n, k, rfl, h, q _ B H (Le.refl e) (.int _)⟩
/-- over range(n) or range(m, n), the bounds known; the body keeps what is known -/
theorem s_forN {ta : TA} {n : Int} (hta : EvA K ta σ B H [.int n]) (h0 : 0 ≤ n) (h1 : n ≤ 1000000) (e : Ex B H) (I : Nat → L2.St → Hp → Prop) (hi : ∀ B1 H1, Le [] B H B1 H1 → I 0 σ B1)
    (hs : ∀ (i : Nat) σ' B' H' N, (i : Int) < n → Le [] B H B' H' → I i σ' B' → (∀ σ3 B3 H3, Le [] B' H' B3 H3 → I (i + 1) σ3 B3 → N σ3 H3) →
      gg (.int (0 + (i : Nat))) σ' H' fun σ2 H2 => tb { D with nx := N, ct := N, bk := D.nx } σ2 H2)
    (hd : ∀ σ' B' H', Le [] B H B' H' → I n.toNat σ' B' → D.nx σ' H') : tFor (iRng1 ta) gg tb D σ H := by
  refine hta B H (Le.refl e) _ fun us B1 H1 l1 hus => ?_
  obtain ⟨u, rfl, hu⟩ := dq1 hus
  cases hu
  refine ⟨n, rfl, by omega, by omega, ?_⟩
  refine for_range (lo := 0) (n := n.toNat) (fun i σ' H' => ∃ B', Le [] B1 H1 B' H' ∧ I i σ' B') ⟨B1, Le.refl l1.h, hi B1 H1 l1⟩ (fun i σ' H' hlt p => ?_) (fun σ' H' p => ?_)
  · obtain ⟨B', l, hI⟩ := p
    exact hs i σ' B' H' _ (by omega) (l1.trans l) hI fun σ3 B3 H3 l3 hI3 => ⟨B3, l.trans l3, hI3⟩
  · obtain ⟨B', l, hI⟩ := p
    exact hd σ' B' H' (l1.trans l) hI
theorem q_forN {ta : TA} {n : Int} (hta : EvA K ta σ B H [.int n]) (h0 : 0 ≤ n) (h1 : n ≤ 1000000) (e : Ex B H) (I : Nat → L2.St → Hp → Prop) (hi : ∀ B1 H1, Le [] B H B1 H1 → I 0 σ B1)
    (hs : ∀ (i : Nat) σ' B' H' N, (i : Int) < n → Le [] B H B' H' → I i σ' B' → (∀ σ3 B3 H3, Le [] B' H' B3 H3 → I (i + 1) σ3 B3 → N σ3 H3) →
      gg (.int (0 + (i : Nat))) σ' H' fun σ2 H2 => tb { D with nx := N, ct := N, bk := tz D } σ2 H2)
    (hd : ∀ σ' B' H', Le [] B H B' H' → I n.toNat σ' B' → tz D σ' H') : tSeq (tFor (iRng1 ta) gg tb) tz D σ H := s_forN (D := { D with nx := tz D }) hta h0 h1 e I hi hs hd
theorem q_forN2 {ta : TA} {m n : Int} (hta : EvA K ta σ B H [.int m, .int n]) (h0 : 0 ≤ m) (h2 : m ≤ n) (h1 : n ≤ 1000000) (e : Ex B H) (I : Nat → L2.St → Hp → Prop) (hi : ∀ B1 H1, Le [] B H B1 H1 → I 0 σ B1)
    (hs : ∀ (i : Nat) σ' B' H' N, (i : Int) < n - m → Le [] B H B' H' → I i σ' B' → (∀ σ3 B3 H3, Le [] B' H' B3 H3 → I (i + 1) σ3 B3 → N σ3 H3) →
      gg (.int (m + (i : Nat))) σ' H' fun σ2 H2 => tb { D with nx := N, ct := N, bk := tz D } σ2 H2)
    (hd : ∀ σ' B' H', Le [] B H B' H' → I (n - m).toNat σ' B' → tz D σ' H') : tSeq (tFor (iRng2 ta) gg tb) tz D σ H := by
  refine hta B H (Le.refl e) _ fun us B1 H1 l1 hus => ?_
  obtain ⟨u, v, rfl, hu, hv⟩ := dq2 hus
  cases hu
  cases hv
  refine ⟨m, n, rfl, ⟨by omega, by omega, by omega, by omega⟩, ?_⟩
  refine for_range (lo := m) (n := (n - m).toNat) (fun i σ' H' => ∃ B', Le [] B1 H1 B' H' ∧ I i σ' B') ⟨B1, Le.refl l1.h, hi B1 H1 l1⟩ (fun i σ' H' hlt p => ?_) (fun σ' H' p => ?_)
  · obtain ⟨B', l, hI⟩ := p
    exact hs i σ' B' H' _ (by omega) (l1.trans l) hI fun σ3 B3 H3 l3 hI3 => ⟨B3, l.trans l3, hI3⟩
  · obtain ⟨B', l, hI⟩ := p
    exact hd σ' B' H' (l1.trans l) hI
def rMin2 : List V → Hp → VK → Prop := fun xs H Q => ∃ i j, xs = [V.int i, V.int j] ∧ Q (.int (if j < i then j else i)) H
def rMax2 : List V → Hp → VK → Prop := fun xs H Q => ∃ i j, xs = [V.int i, V.int j] ∧ Q (.int (if j > i then j else i)) H
theorem rc_min {i j : Int} : RC K rMin2 [.int i, .int j] (.int (min i j)) := fun B H vs e hvs Q q => by
  obtain ⟨v, u, rfl, hv, hu⟩ := dq2 hvs
  cases hv
  cases hu
  refine ⟨i, j, rfl, ?_⟩
  rw [show (if j < i then j else i) = min i j by omega]
  exact q _ B H (Le.refl e) (.int _)
theorem rc_max {i j : Int} : RC K rMax2 [.int i, .int j] (.int (max i j)) := fun B H vs e hvs Q q => by
  obtain ⟨v, u, rfl, hv, hu⟩ := dq2 hvs
  cases hv
  cases hu
  refine ⟨i, j, rfl, ?_⟩
  rw [show (if j > i then j else i) = max i j by omega]
  exact q _ B H (Le.refl e) (.int _)
/-- [..] * k -/
theorem rv_mulL {ds : List PyData} {k : Int} (h2 : 0 ≤ k) (h3 : k ≤ 1000) (h4 : ds.length ≤ 100) : RV K (rMulA K) (.list ds) (.int k) (.list (List.replicate k.toNat ds).flatten) := fun B H v u e hv hu Q q => by
  cases hu
  cases hv with
  | lst h1 q1 =>
    rename_i a xs
    have hl := q1.length
    have hm : xs.length * k.toNat ≤ 100 * 1000 := Nat.mul_le_mul (by omega) (by omega)
    refine .inr (.inr ⟨a, k, xs, rfl, rfl, e _ _ h1, by omega, by omega, size_ok hm, fun p hp => ?_⟩)
    exact q (.ref p) _ _ (Le.new e hp) (.lst upd_same ((q1.flatRep _).mono (Le.new (M := []) e hp).b))
end
end MA

set_option maxRecDepth 100000
set_option maxHeartbeats 2000000
namespace MA
open PySem PySem.Spec PyProof.Rows L2

/-! ## {kx: vx for t0 in i0 for t1 in i1} -/
abbrev dc2 (kx vx t0 i0 t1 i1 : Expr) (scope : Scope) (pos : Pos) : Expr := .DictComp kx vx [⟨t0, i0, [], 0⟩, ⟨t1, i1, [], 0⟩] scope pos
theorem dc2_outer (kx vx t0 i0 t1 i1 : Expr) (scope : Scope) (pos : Pos) (it : Value) (D : Addr) (env : Env) :
    compTurn (dc2 kx vx t0 i0 t1 i1 scope pos) 0 it (.ref D) env = (do
      standAt i0.pos
      match ← pyNext it with
      | none => pure (.done .next)
      | some v =>
        letOwnedTupleGo t0 it v
        assign t0 env v
        let x ← eval i1 env
        standAt i1.pos
        let x ← foldedSetIterable i1 env x
        let _ ← runOwn (.compStart (dc2 kx vx t0 i0 t1 i1 scope pos) 1 (← holding [x] (pyIter x)) (.ref D) env) env
        again (.compLoop (dc2 kx vx t0 i0 t1 i1 scope pos) 0 it (.ref D) env)) := by rfl
theorem dc2_inner (kx vx t0 i0 t1 i1 : Expr) (scope : Scope) (pos : Pos) (it : Value) (D : Addr) (env : Env) :
    compTurn (dc2 kx vx t0 i0 t1 i1 scope pos) 1 it (.ref D) env = (do
      standAt i1.pos
      match ← pyNext it with
      | none => pure (.done .next)
      | some v =>
        letOwnedTupleGo t1 it v
        assign t1 env v
        (do
          let kv ← eval kx env
          let vv ← holding [kv] (eval vx env)
          standAt { kx.pos with endLine := vx.pos.endLine, endCol := vx.pos.endCol }
          holding [kv, vv] (dictSet D kv vv))
        again (.compLoop (dc2 kx vx t0 i0 t1 i1 scope pos) 1 it (.ref D) env)) := by rfl
section
variable {prog : Program} {w : World} {A : Around} {R : Result → Shared → Prop} {s : Shared} {kx vx t0 i0 t1 i1 : Expr} {scope : Scope} {pos : Pos} {it : Value} {D : Addr} {env : Env}
/-- the block's wish of an exception: none comes -/
abbrev NoxD (prog : Program) (w : World) (A : Around) (env : Env) (R : Result → Shared → Prop) : Value → Shared → Prop := notedBy (model prog w) A env fun e t => R (.error e) t
theorem dc2_loop0 (hs : ∀ x, foldedSetIterable i1 env x = pure x) (I : Nat → Shared → Prop)
    (turn : ∀ n s, I n s → wpAny (model prog w) A (pyNext it) (fun r sa => match r with
      | none => R (.ok .next) sa
      | some v => wpAny (model prog w) A (letOwnedTupleGo t0 it v) (fun _ sb => wpAny (model prog w) A (assign t0 env v) (fun _ sc =>
          wpAny (model prog w) A (eval i1 env) (fun x sd => wpAny (model prog w) A (pyIter x) (fun it1 se =>
              codeAny (model prog w) A (.compStart (dc2 kx vx t0 i0 t1 i1 scope pos) 1 it1 (.ref D) env) (fun r t => match r with
                | .ok _ => ∃ m, m < n ∧ I m t
                | .error _ => False) se) (NoxD prog w A env R) sd) (NoxD prog w A env R) sc) (NoxD prog w A env R) sb) (NoxD prog w A env R) sa) (NoxD prog w A env R) s)
    (n : Nat) (h : I n s) : codeAny (model prog w) A (.compLoop (dc2 kx vx t0 i0 t1 i1 scope pos) 0 it (.ref D) env) R s := by
  refine codeAny_loop rfl I (fun n s hI => ?_) n h
  show wpAny _ A ((compTurn (dc2 kx vx t0 i0 t1 i1 scope pos) 0 it (.ref D) env).onRaise (fun x => do noteFrame x env; theTreesLotGoes x)) _ _ s
  refine wpAny_noted ?_
  rw [dc2_outer]
  refine wpAny_bind (wpAny_standAt (wpAny_bind (wpAny_mono (turn n s hI) (fun r sa ha => ?_) fun _ _ z => z)))
  cases r with
  | none => exact wpAny_pure ha
  | some v =>
    refine wpAny_bind (wpAny_mono ha (fun _ sb hb => wpAny_bind (wpAny_mono hb (fun _ sc hc => ?_) fun _ _ z => z)) fun _ _ z => z)
    refine wpAny_bind (wpAny_mono hc (fun x sd hd => wpAny_bind (wpAny_standAt (wpAny_bind (wpAny_of_eq (hs x) (wpAny_bind (wpAny_holding (wpAny_mono hd (fun it1 se he => ?_) fun _ _ z => z))))))) fun _ _ z => z)
    refine wpAny_bind (wpAny_runOwn ?_)
    rw [Around.mark_none]
    refine codeAny_mono he fun r t hr => ?_
    cases r with
    | error e => exact hr.elim
    | ok f =>
      first
        | exact wpAny_pure ⟨rfl, hr⟩
        | exact wpAny_bind (wpAny_pure (wpAny_pure ⟨rfl, hr⟩))
theorem dc2_loop1 (I : Nat → Shared → Prop)
    (turn : ∀ n s, I n s → wpAny (model prog w) A (pyNext it) (fun r sa => match r with
      | none => R (.ok .next) sa
      | some v => wpAny (model prog w) A (letOwnedTupleGo t1 it v) (fun _ sb => wpAny (model prog w) A (assign t1 env v) (fun _ sc =>
          wpAny (model prog w) A (eval kx env) (fun x sd => wpAny (model prog w) A (eval vx env) (fun y se => wpAny (model prog w) A (dictSet D x y) (fun _ sf => ∃ m, m < n ∧ I m sf) (NoxD prog w A env R) se) (NoxD prog w A env R) sd) (NoxD prog w A env R) sc) (NoxD prog w A env R) sb) (NoxD prog w A env R) sa) (NoxD prog w A env R) s)
    (n : Nat) (h : I n s) : codeAny (model prog w) A (.compLoop (dc2 kx vx t0 i0 t1 i1 scope pos) 1 it (.ref D) env) R s := by
  refine codeAny_loop rfl I (fun n s hI => ?_) n h
  show wpAny _ A ((compTurn (dc2 kx vx t0 i0 t1 i1 scope pos) 1 it (.ref D) env).onRaise (fun x => do noteFrame x env; theTreesLotGoes x)) _ _ s
  refine wpAny_noted ?_
  rw [dc2_inner]
  refine wpAny_bind (wpAny_standAt (wpAny_bind (wpAny_mono (turn n s hI) (fun r sa ha => ?_) fun _ _ z => z)))
  cases r with
  | none => exact wpAny_pure ha
  | some v =>
    refine wpAny_bind (wpAny_mono ha (fun _ sb hb => wpAny_bind (wpAny_mono hb (fun _ sc hc => ?_) fun _ _ z => z)) fun _ _ z => z)
    exact wpAny_bind (wpAny_bind (wpAny_mono hc (fun kv sd hd => wpAny_bind (wpAny_holding (wpAny_mono hd (fun vv se he => wpAny_bind (wpAny_standAt (wpAny_holding (wpAny_mono he (fun _ sf hf => wpAny_pure ⟨rfl, hf⟩) fun _ _ z => z)))) fun _ _ z => z))) fun _ _ z => z))
theorem dc2_start1 (h0 : codeAny (model prog w) A (.compLoop (dc2 kx vx t0 i0 t1 i1 scope pos) 1 it (.ref D) env) R s)
    (h : wpAny (model prog w) A (pyIter it) (fun it2 t => codeAny (model prog w) A (.compLoop (dc2 kx vx t0 i0 t1 i1 scope pos) 1 it2 (.ref D) env) R t) (NoxD prog w A env R) s) :
    codeAny (model prog w) A (.compStart (dc2 kx vx t0 i0 t1 i1 scope pos) 1 it (.ref D) env) R s := by
  refine codeAny_of_tree ?_
  show wpAny _ _ ((compStart (dc2 kx vx t0 i0 t1 i1 scope pos) 1 it (.ref D) env).onRaise (fun x => do noteFrame x env; standAt theWindowsPlace)) _ _ s
  refine wpAny_notedAt ?_
  unfold compStart
  show wpAny _ _ (ask >>= _) _ _ s
  refine wpAny_bind (wpAny_askSetting (wpAny_ite ?_))
  split
  · first
      | exact wpAny_bind (wpAny_pure (wpAny_pure (And.intro rfl h0)))
      | exact wpAny_pure (And.intro rfl h0)
  · first
      | exact wpAny_bind (wpAny_rule (wpAny_bind (wpAny_standAt (wpAny_bind (wpAny_mono h (fun it2 t z => wpAny_pure (And.intro rfl z)) fun _ _ x => x)))))
      | (refine wpAny_bind (wpAny_rule ?_); show wpAny _ _ (standAt i1.pos >>= _) _ _ s; exact wpAny_bind (wpAny_standAt (wpAny_bind (wpAny_mono h (fun it2 t z => wpAny_pure (And.intro rfl z)) fun _ _ x => x))))
end
section
variable {X : Cx}
/-- the reading: a dict at D that grows -/
def tDc2 (wi : TI) (g : TG) (wi1 : TI) (g1 : TG) (tk tv : TE) (vs vs1 : List Nat) : TE := fun σ H Q => wi σ H fun J H1 => ∀ D, H1 D = none → ∃ W : Nat → Nat → Hp → Prop, (∃ m, W 0 m (upd H1 D (.dK []))) ∧ ∀ i m H, W i m H →
  (J.stop i H ∧ Q (.ref D) H) ∨ (J.go i H ∧ ∃ Nx : Hp → Prop, (∀ Hn, Nx Hn → ∃ mn, mn < m ∧ W (i + 1) mn Hn) ∧ ∀ x Hy, J.yld i H x Hy → g x (wipe σ vs) Hy fun σ2 H2 => wipe σ2 vs = wipe σ vs ∧
    wi1 σ2 H2 fun J1 H4 => ∃ W1 : Nat → Nat → Hp → Prop, (∃ m, W1 0 m H4) ∧ ∀ j k H, W1 j k H →
      (J1.stop j H ∧ Nx H) ∨ (J1.go j H ∧ ∃ Ny : Hp → Prop, (∀ Hn, Ny Hn → ∃ kn, kn < k ∧ W1 (j + 1) kn Hn) ∧ ∀ x Hy, J1.yld j H x Hy → g1 x (wipe σ2 vs1) Hy fun σ3 H5 => wipe σ3 vs1 = wipe σ2 vs1 ∧
        tk σ3 H5 fun y H6 => tv σ3 H6 fun z H7 => ∃ (kvs : List (Key × V)) (k : Key), y = kV k ∧ H7 D = some (.dK kvs) ∧ kvs.length < sizeLine ∧ Ny (upd H7 D (.dK (putK kvs k z)))))
theorem pe_dc2 {kx vx t0 i0 t1 i1 : Expr} {scope : Scope} {own : List (PySem.Str × Nat)} {vs1 : List Nat} {pos : Pos} {wi wi1 : TI} {g g1 : TG} {tk tv : TE} (hc : X.calm = true) (hN : X.N.Nodup) (hi : PI X t0 i0 wi) (ok : BlkOk X.N X.env.scope scope own) (hv : ∀ i ∈ vs1, i ∈ own.map (·.2))
    (hg : ∀ (s : Shared) (H : Hp) (C : Addr) (cl : List (PySem.Str × Addr)) (fp : List Addr), PG (X.blk s H scope (compEnvC scope cl C X.env) fp) t0 g)
    (hi1 : ∀ (s : Shared) (H : Hp) (C : Addr) (cl : List (PySem.Str × Addr)) (fp : List Addr), PI (X.blk s H scope (compEnvC scope cl C X.env) fp) t1 i1 wi1)
    (hg1 : ∀ (s : Shared) (H : Hp) (C : Addr) (cl : List (PySem.Str × Addr)) (fp : List Addr), PG (X.blk s H scope (compEnvC scope cl C X.env) fp) t1 g1)
    (hk : ∀ (s : Shared) (H : Hp) (C : Addr) (cl : List (PySem.Str × Addr)) (fp : List Addr), PE (X.blk s H scope (compEnvC scope cl C X.env) fp) kx tk)
    (he : ∀ (s : Shared) (H : Hp) (C : Addr) (cl : List (PySem.Str × Addr)) (fp : List Addr), PE (X.blk s H scope (compEnvC scope cl C X.env) fp) vx tv)
    (hs : ∀ x, foldedSetIterable i0 X.env x = pure x := by intro _; rfl) (hs1 : ∀ env x, foldedSetIterable i1 env x = pure x := by intro _ _; rfl) :
    PE X (.DictComp kx vx [⟨t0, i0, [], 0⟩, ⟨t1, i1, [], 0⟩] scope pos) (tDc2 wi g wi1 g1 tk tv (own.map (·.2)) vs1) := by
  refine ⟨fun pins s σ H Q I h => ?_⟩
  show wpAny _ _ (comprehension (dc2 kx vx t0 i0 t1 i1 scope pos) scope X.env (firstIterPos [⟨t0, i0, [], 0⟩, ⟨t1, i1, [], 0⟩] pos) newDict false (eval i0 X.env) none) _ _ s
  have hfree : ∀ y ∈ scope.names, y.2 = .free → ∃ c, X.env.cells.lookup y.1 = some c := fun y hy e => (ok.free y hy e).elim (fun k => I.ok.has _ (.inl k)) fun k => I.ok.has _ (.inr k)
  refine wpAny_comprehension_free (use := none) rfl hs (closure_ok hfree) ok.kind (fun y hy e => by rw [ok.uniq y hy, e]) (thn (hi.run pins s σ H _ I h) fun xv sa hx => thn hx fun itv sb h2 => ?_)
  obtain ⟨it, fp, tn, J, H2, e, I2, T, st2, f2, q⟩ := h2
  subst e
  refine wpAny_newObj_type (newEnv_comp ?_)
  generalize hD : sb.heap.objs.size = D
  have hDn : H2 D = none := I2.hok.fresh (Nat.le_of_eq hD)
  obtain ⟨W, ⟨m0, w0⟩, turn⟩ := q D hDn
  generalize h3 : ({ sb with heap := sb.heap.push { cls := .type "dict", data := .dict #[] } } : Shared) = sc
  generalize hH3 : upd H2 D (.dK []) = H3 at w0
  have hp3 : sc.heap = sb.heap.push { cls := .type "dict", data := .dict #[] } := by rw [← h3]
  have I3 : Inv X pins σ H3 sc := by
    rw [← h3, ← hH3]
    refine I2.laid (t' := sb.toks) (fun b o e => Heap.get?_push_of_some _ e) (Nat.le_of_eq hD) ?_
    rw [← hD]
    exact dk_empty sb.heap I2.big
  have f3 : ∀ b ∈ fp, FpOk X pins H3 b ∧ b < sc.heap.objs.size := fun b hb => by
    obtain ⟨o, e, _⟩ := T.obj _ _ st2 b hb
    have hlt : b < sb.heap.objs.size := Heap.lt_size e
    refine ⟨⟨?_, (f2 b hb).2⟩, by rw [hp3, Heap.size_push]; exact Nat.lt_succ_of_lt hlt⟩
    rw [← hH3, upd_ne (by rw [← hD]; exact Nat.ne_of_lt hlt)]
    exact (f2 b hb).1
  have I4 := block_start I3 ok hN f3
  have pg := hg sc H3 sc.heap.objs.size (cellsFrom (sc.heap.objs.size + 1) scope.names (cloFrom X.env.cells scope.names [])) fp
  have pk := hk sc H3 sc.heap.objs.size (cellsFrom (sc.heap.objs.size + 1) scope.names (cloFrom X.env.cells scope.names [])) fp
  have pe := he sc H3 sc.heap.objs.size (cellsFrom (sc.heap.objs.size + 1) scope.names (cloFrom X.env.cells scope.names [])) fp
  have pi1 := hi1 sc H3 sc.heap.objs.size (cellsFrom (sc.heap.objs.size + 1) scope.names (cloFrom X.env.cells scope.names [])) fp
  have pg1 := hg1 sc H3 sc.heap.objs.size (cellsFrom (sc.heap.objs.size + 1) scope.names (cloFrom X.env.cells scope.names [])) fp
  show codeAny _ _ (.compStart (dc2 kx vx t0 i0 t1 i1 scope pos) 0 (.ref it) (.ref D) (compEnvC scope (cellsFrom (sc.heap.objs.size + 1) scope.names (cloFrom X.env.cells scope.names [])) sc.heap.objs.size X.env)) (compPost (model X.prog X.w) X.A X.xe none (EP X pins σ Q) (.ref D) sc.heap.objs.size) { sc with heap := pushCells (sc.heap.push { cls := .type "dict", data := .dict #[] }) scope.names }
  generalize hce : compEnvC scope (cellsFrom (sc.heap.objs.size + 1) scope.names (cloFrom X.env.cells scope.names [])) sc.heap.objs.size X.env = ce at I4 pg pk pe pi1 pg1 ⊢
  have cL : ce.locals = sc.heap.objs.size := by subst hce; rfl
  generalize h4 : ({ sc with heap := pushCells (sc.heap.push { cls := .type "dict", data := .dict #[] }) scope.names } : Shared) = sd at I4 ⊢
  have st4 : tn 0 sd.heap := T.keep _ _ _ st2 fun b _ o e => by
    rw [← h4]
    exact pushCells_keeps _ _ _ _ (Heap.get?_push_of_some _ (by rw [hp3]; exact Heap.get?_push_of_some _ e))
  generalize hY : X.blk sc H3 scope ce fp = Y at I4 pg pk pe pi1 pg1
  have yex : Y.ex = fp := by rw [← hY]
  have stat : ∀ {σa : L2.St} {Ha : Hp} {t : Shared} {ps : List (Addr × Obj)}, Inv Y ps σa Ha t → (∀ b ∈ fp, Ha b = none) → ∀ b ∈ fp, FpOk Y [] Ha b := fun {σa Ha t ps} Ia hn b hb => by
    have hb' : b ∈ Y.ex := by rw [yex]; exact hb
    exact ⟨hn b hb, (Ia.ok.exf b hb').1, Ia.ok.exfs b hb', .inl hb', fun x c e => (Ia.ok.exf b hb').2 x c e, fun p hp => by rw [← hY] at hp; cases hp⟩
  have yP : Y.prog = X.prog := by rw [← hY]
  have yw : Y.w = X.w := by rw [← hY]
  have yK : Y.K = X.K := by rw [← hY]
  have yA : Y.A = X.A := by rw [← hY]
  have yc : Y.calm = true := by rw [← hY]; exact hc
  have yx : Y.xe = fun _ _ => False := by rw [← hY]
  have main : ∀ (R : Result → Shared → Prop), (∀ t Ha, Inv Y [] (wipe σ (own.map (·.2))) Ha t → Q (.ref D) Ha → R (.ok .next) t) →
      codeAny (model X.prog X.w) X.A (.compLoop (dc2 kx vx t0 i0 t1 i1 scope pos) 0 (.ref it) (.ref D) ce) R sd := by
    intro R hend
    subst hY
    refine dc2_loop0 (hs1 ce) (fun n t => ∃ i Ha, Inv (X.blk sc H3 scope ce fp) [] (wipe σ (own.map (·.2))) Ha t ∧ tn i t.heap ∧ (∀ b ∈ fp, Ha b = none) ∧ W i n Ha) ?_ m0 ⟨0, H3, I4, st4, fun b hb => (f3 b hb).1.1, w0⟩
    rintro n ta ⟨i, H5, I5, st5, n5, w5⟩
    rcases turn i n H5 w5 with ⟨stop, qq⟩ | ⟨go, Nx, hNx, step⟩
    · refine thnF (T.done (X.blk sc H3 scope ce fp) rfl rfl rfl hc i [] ta _ H5 (fun _ _ => False) I5 (stat I5 n5) st5 stop) fun r tb ⟨hr, I6⟩ => ?_
      subst hr
      exact hend tb H5 I6 qq
    refine thnF (T.item (X.blk sc H3 scope ce fp) rfl rfl rfl hc i [] ta _ H5 (fun _ _ => False) I5 (stat I5 n5) st5 go) fun r tb ⟨u, hr, h6⟩ => ?_
    subst hr
    refine thnF h6 fun _ tc ⟨x, H7, I7, r7, y7, st7, n7⟩ => ?_
    refine thnF (pg.run _ tc _ H7 x u _ (I7.pinned (stat I7 n7) (T.obj _ _ st7)) r7 (step x H7 y7)) fun _ td ⟨σ8, H8, I8, hw8, q8⟩ => ?_
    -- back to the outer loop
    have fin : ∀ {σ9 : L2.St} {t : Shared} {Ha : Hp}, Inv (X.blk sc H3 scope ce fp) ([] ++ pinsAt fp tc.heap) σ9 Ha t → (wipe σ (own.map (·.2))).length = σ9.length → (∀ (j : Nat) v, (wipe σ (own.map (·.2)))[j]? = some (some v) → σ9[j]? = some (some v)) → Nx Ha →
        ∃ m, m < n ∧ ∃ i Ha, Inv (X.blk sc H3 scope ce fp) [] (wipe σ (own.map (·.2))) Ha t ∧ tn i t.heap ∧ (∀ b ∈ fp, Ha b = none) ∧ W i m Ha := fun {σ9 t Ha} Ia hl hk nx => by
      obtain ⟨mn, hm, wn⟩ := hNx Ha nx
      have pin : ∀ b ∈ fp, ∀ o, tc.heap.get? b = some o → t.heap.get? b = some o ∧ Ha b = none := fun b hb o e => by
        have z := Ia.pin (b, o) (List.mem_append_right _ (List.mem_append_right _ (mem_pinsAt hb e)))
        exact ⟨z.1, z.2.1⟩
      refine ⟨mn, hm, i + 1, Ha, (Ia.unpinned (pins := [])).weak hl hk, T.keep _ _ _ st7 fun b hb o e => (pin b hb o e).1, fun b hb => ?_, wn⟩
      obtain ⟨o, e, _⟩ := T.obj _ _ st7 b hb
      exact (pin b hb o e).2
    have hl8 : (wipe σ (own.map (·.2))).length = σ8.length := by rw [← hw8, wipe_length]
    have hk9 : ∀ (j : Nat) v, (wipe σ (own.map (·.2)))[j]? = some (some v) → (wipe σ8 vs1)[j]? = some (some v) := fun j v e => by
      rw [← hw8] at e
      obtain ⟨e1, e2⟩ := wipe_some e
      rw [wipe_out fun z => e2 (hv j z)]
      exact e1
    refine thnF (pi1.run _ td σ8 H8 _ I8 q8) fun xv te' hx => thnF hx fun itv tf h11 => ?_
    obtain ⟨it1, fp1, tn1, J1, H11, e1, I11, T1, st11, f11, W1, ⟨m1, w1⟩, turn1⟩ := h11
    subst e1
    have stat1 : ∀ {Ha : Hp}, (∀ b ∈ fp1, Ha b = none) → ∀ b ∈ fp1, FpOk (X.blk sc H3 scope ce fp) ([] ++ pinsAt fp tc.heap) Ha b := fun hn b hb => ⟨hn b hb, (f11 b hb).2⟩
    have inner : codeAny (model X.prog X.w) X.A (.compLoop (dc2 kx vx t0 i0 t1 i1 scope pos) 1 (.ref it1) (.ref D) ce)
        (fun r t => match r with
          | .ok _ => ∃ m, m < n ∧ ∃ i Ha, Inv (X.blk sc H3 scope ce fp) [] (wipe σ (own.map (·.2))) Ha t ∧ tn i t.heap ∧ (∀ b ∈ fp, Ha b = none) ∧ W i m Ha
          | .error _ => False) tf := by
      refine dc2_loop1 (fun k t => ∃ j Ha, Inv (X.blk sc H3 scope ce fp) ([] ++ pinsAt fp tc.heap) (wipe σ8 vs1) Ha t ∧ tn1 j t.heap ∧ (∀ b ∈ fp1, Ha b = none) ∧ W1 j k Ha) ?_ m1 ⟨0, H11, I11.weak (wipe_length _ _) (fun j v e => (wipe_some e).1), st11, fun b hb => (f11 b hb).1, w1⟩
      rintro k tg ⟨j, H12, I12, st12, n12, w12⟩
      rcases turn1 j k H12 w12 with ⟨stop1, nx1⟩ | ⟨go1, Ny, hNy, step1⟩
      · refine thnF (T1.done (X.blk sc H3 scope ce fp) rfl rfl rfl hc j _ tg (wipe σ8 vs1) H12 (fun _ _ => False) I12 (stat1 n12) st12 stop1) fun r th ⟨hr, I13⟩ => ?_
        subst hr
        exact fin I13 (hl8.trans (wipe_length σ8 vs1).symm) hk9 nx1
      refine thnF (T1.item (X.blk sc H3 scope ce fp) rfl rfl rfl hc j _ tg (wipe σ8 vs1) H12 (fun _ _ => False) I12 (stat1 n12) st12 go1) fun r th ⟨u1, hr, h13⟩ => ?_
      subst hr
      refine thnF h13 fun _ ti ⟨x1, H14, I14, r14, y14, st14, n14⟩ => ?_
      refine thnF (pg1.run _ ti (wipe σ8 vs1) H14 x1 u1 _ (I14.pinned (stat1 n14) (T1.obj _ _ st14)) r14 (step1 x1 H14 y14)) fun _ tj ⟨σ15, H15, I15, hw15, q15⟩ => ?_
      refine thnF (pk.run _ tj σ15 H15 _ I15 q15) fun z tk' ⟨yv, H16, I16, r16, q16⟩ => ?_
      refine thnF (pe.run _ tk' σ15 H16 _ I16 q16) fun z2 tk2 ⟨zv, H17, I17, r17, kvs, kk, ey, hD17, hz17, nx⟩ => ?_
      subst ey
      refine d_dictSet (X := X.blk sc H3 scope ce fp) I17 hD17 hz17 r16 r17 fun tl I18 => ?_
      obtain ⟨kn, hk, wn⟩ := hNy _ nx
      have pin : ∀ b ∈ fp1, ∀ o, ti.heap.get? b = some o → tl.heap.get? b = some o ∧ (upd H17 D (.dK (putK kvs kk zv))) b = none := fun b hb o e => by
        have z := I18.pin (b, o) (List.mem_append_right _ (List.mem_append_right _ (mem_pinsAt hb e)))
        exact ⟨z.1, z.2.1⟩
      refine ⟨kn, hk, j + 1, _, I18.unpinned.weak (by rw [← hw15, wipe_length]) (fun j v e => by rw [← hw15] at e; exact (wipe_some e).1), T1.keep _ _ _ st14 fun b hb o e => (pin b hb o e).1, fun b hb => ?_, wn⟩
      obtain ⟨o, e, _⟩ := T1.obj _ _ st14 b hb
      exact (pin b hb o e).2
    exact dc2_start1 inner (T1.self X.A 0 _ _ _ st11 inner)
  have loop := main (compPost (model X.prog X.w) X.A X.xe none (EP X pins σ Q) (.ref D) sc.heap.objs.size) fun t Ha Ia qq => by
    subst hY
    have I7 : Inv X pins σ Ha t := I3.call' (ch := fp) Ia.os Ia.base Ia.hok Ia.bare fun b hb => ⟨(f3 b hb).1.2.2.2.1, (f3 b hb).1.2.1, (f3 b hb).1.2.2.2.2.1, (f3 b hb).1.2.2.2.2.2⟩
    have nC : Ha sc.heap.objs.size = none := by
      have z : Ha ce.locals = none := Ia.free
      rw [cL] at z
      exact z
    obtain ⟨mm, hn, _⟩ := Ia.loc
    have hn : t.heap.Ns ce.locals mm := hn
    rw [cL] at hn
    refine ⟨mm, hn, fun h'' sb' => ?_⟩
    obtain ⟨f0, f1, f2, f4, f5, f6⟩ := I3.fpOk (Nat.le_refl _) nC
    exact ⟨.ref D, Ha, I7.turned (t' := t.toks) (fun b o hb e => (sb'.2 b hb).trans e) f0 f1 f4 f5 f6, rfl, qq⟩
  exact codeAny_compStart_dict loop (T.self X.A 0 _ _ _ st4 loop)
end
end MA

set_option maxRecDepth 100000
set_option maxHeartbeats 2000000
namespace MA
open PySem PySem.Spec PyProof.Rows L2
/-! ## a dict is locked while it is walked -/
section
variable {K : PySem.W.Frag} {σ : L2.St} {B H : Hp} {t : TE} {x : PyData} {d : Addr} {kvs : List (Key × V)}
def backB (B0 B : Hp) (d : Addr) : Hp := fun a => if a = d then B0 d else B a
structure Back (B1 H1 : Hp) (d : Addr) (kvs : List (Key × V)) (B2 H2 : Hp) : Prop where
  fz : ∃ od, H2 d = some (.frz od (.dK kvs))
  le : Le [] B1 H1 (backB B1 B2 d) (upd H2 d (.dK kvs))
  ex : Ex B2 (backB B1 B2 d)
theorem lock_le {od : Obj} {B1 H1 : Hp} (e : Ex B1 H1) (hd : H1 d = some (.dK kvs)) : Ex (dropB B1 d) (upd H1 d (.frz od (.dK kvs))) := fun a o h => by
  unfold dropB at h
  split at h
  · cases h
  · rename_i z
    rw [upd_ne z]
    exact e a o h
theorem lock_back {od : Obj} {B1 H1 B2 H2 : Hp} (e : Ex B1 H1) (hd : H1 d = some (.dK kvs)) (l : Le [] (dropB B1 d) (upd H1 d (.frz od (.dK kvs))) B2 H2) : H2 d = some (.frz od (.dK kvs)) ∧ Le [] B1 H1 (backB B1 B2 d) (upd H2 d (.dK kvs)) ∧ Ex B2 (backB B1 B2 d) := by
  have b2 : B2 d = none := by
    cases z : B2 d with
    | none => rfl
    | some o =>
      have := l.n d (if_pos rfl) (by rw [z]; simp)
      rw [upd_same] at this
      cases this
  have dn : ∀ a, a ≠ d → dropB B1 d a = B1 a := fun a h => if_neg h
  have bn : ∀ a, a ≠ d → backB B1 B2 d a = B2 a := fun a h => if_neg h
  have bd : backB B1 B2 d d = B1 d := if_pos rfl
  have one : ∀ o, B1 d = some o → o = .dK kvs := fun o h => by
    have := e d o h
    rw [hd] at this
    exact (Option.some.inj this).symm
  refine ⟨l.k d _ (by simp) upd_same, ⟨fun a o h => ?_, fun a o h => ?_, fun a o _ h => ?_, fun a h => ?_, fun a h1 h2 => ?_⟩, fun a o h => ?_⟩
  · by_cases z : a = d
    · subst z; rw [bd]; exact h
    · rw [bn a z]; exact l.b a o (by rw [dn a z]; exact h)
  · by_cases z : a = d
    · subst z
      rw [bd] at h
      rw [one o h, upd_same]
    · rw [bn a z] at h
      rw [upd_ne z]; exact l.h a o h
  · by_cases z : a = d
    · subst z
      rw [hd] at h
      rw [upd_same]; exact h
    · rw [upd_ne z]; exact l.k a o (by simp) (by rw [upd_ne z]; exact h)
  · by_cases z : a = d
    · subst z; rw [upd_same]; simp
    · rw [upd_ne z]; exact l.t a (by rw [upd_ne z]; exact h)
  · by_cases z : a = d
    · subst z; rw [bd] at h2; exact absurd h1 h2
    · rw [bn a z] at h2
      have := l.n a (by rw [dn a z]; exact h1) h2
      rw [upd_ne z] at this
      exact this
  · by_cases z : a = d
    · subst z; rw [b2] at h; cases h
    · rw [bn a z]; exact h
theorem evN_lock (hd : H d = some (.dK kvs)) (h : ∀ od B1 H1, Le [] B H B1 H1 → H1 d = some (.dK kvs) → EvN K t σ (dropB B1 d) (upd H1 d (.frz od (.dK kvs))) x) : EvN K (tLockE t) σ B H x := fun B1 H1 l Q q => by
  have hd1 := l.k d _ (by simp) hd
  refine ⟨d, .dK kvs, hd1, trivial, fun od => ?_⟩
  refine h od B1 H1 l hd1 _ _ (Le.refl (lock_le l.h hd1)) _ fun v B2 H2 l2 hn hv => ?_
  obtain ⟨z1, z2, z3⟩ := lock_back l.h hd1 l2
  refine ⟨z1, q v _ _ z2 ?_ (hv.mono z3)⟩
  obtain ⟨a, ea, ha⟩ := hn
  refine ⟨a, ea, ?_⟩
  by_cases z : a = d
  · subst z; rw [upd_same] at ha; cases ha
  · rw [upd_ne z] at ha; exact ha
theorem ev_lock (hd : H d = some (.dK kvs)) (h : ∀ od B1 H1, Le [] B H B1 H1 → H1 d = some (.dK kvs) → Ev K t σ (dropB B1 d) (upd H1 d (.frz od (.dK kvs))) x) : Ev K (tLockE t) σ B H x := fun B1 H1 l Q q => by
  have hd1 := l.k d _ (by simp) hd
  refine ⟨d, .dK kvs, hd1, trivial, fun od => ?_⟩
  refine h od B1 H1 l hd1 _ _ (Le.refl (lock_le l.h hd1)) _ fun v B2 H2 l2 hv => ?_
  obtain ⟨z1, z2, z3⟩ := lock_back l.h hd1 l2
  exact ⟨z1, q v _ _ z2 (hv.mono z3)⟩
end
/-! ## dicts from ints to ints -/
def dictI (ps : List (Int × Int)) : PyData := .dict (ps.map fun p => (.int p.1, .int p.2))
def kvI (ps : List (Int × Int)) : List (Key × V) := ps.map fun p => (.inl p.1, .int p.2)
theorem kvI_zip : ∀ ps : List (Int × Int), zipK (kvI ps) (ps.map fun p => PyData.int p.2) = ps.map fun p => (PyData.int p.1, PyData.int p.2)
  | [] => rfl
  | p :: ps => by
    show (PyData.int p.1, PyData.int p.2) :: zipK (kvI ps) _ = _
    rw [kvI_zip ps]
    rfl
theorem kvI_q {K : PySem.W.Frag} {B : Hp} : ∀ ps : List (Int × Int), DqAll K B ((kvI ps).map (·.2)) (ps.map fun p => PyData.int p.2)
  | [] => .nil
  | p :: ps => .cons (.int _) (kvI_q ps)
theorem dq_dictI {K : PySem.W.Frag} {B : Hp} {a : Addr} {ps : List (Int × Int)} (h : B a = some (.dK (kvI ps))) : Dq K B (.ref a) (dictI ps) := by
  have z := Dq.dct (K := K) h (kvI_q ps)
  rw [kvI_zip] at z
  exact z
theorem kvI_put {ps : List (Int × Int)} {k x : Int} (h : k ∉ ps.map (·.1)) : putK (kvI ps) (.inl k : Key) (.int x) = kvI (ps ++ [(k, x)]) := by
  unfold putK
  rw [if_neg ?_]
  · unfold kvI; rw [List.map_append]; rfl
  · rw [Bool.not_eq_true, List.any_eq_false]
    intro kv hkv
    unfold kvI at hkv
    obtain ⟨p, hp, rfl⟩ := List.mem_map.mp hkv
    simp only [decide_eq_true_eq]
    intro e
    exact h (List.mem_map.mpr ⟨p, hp, Sum.inl.inj e⟩)
/-- a dict from ints to ints, as one by a function -/
theorem dictI_eff : ∀ {ps : List (Int × Int)}, (ps.map (·.1)).Nodup → dictI ps = effM (ps.map (·.1)) fun k => .int ((ps.lookup k).getD 0) := by
  intro ps hn
  unfold dictI effM
  congr 1
  rw [List.map_map]
  apply List.map_congr_left
  intro p hp
  have : ps.lookup p.1 = some p.2 := by
    induction ps with
    | nil => cases hp
    | cons a ps ih =>
      rw [List.map_cons, List.nodup_cons] at hn
      rcases List.mem_cons.mp hp with e | e
      · subst e
        exact List.lookup_cons_self
      · have : (p.1 == a.1) = false := by
          simp only [beq_eq_false_iff_ne]
          exact fun z => hn.1 (z ▸ List.mem_map.mpr ⟨p, e, rfl⟩)
        rw [show a = (a.1, a.2) from rfl, List.lookup_cons, this]
        exact ih hn.2 e
  show (PyData.int p.1, PyData.int p.2) = (PyData.int p.1, PyData.int ((ps.lookup p.1).getD 0))
  rw [this]
  rfl
def srcP (ns : List Int) (m : Int → List Int) : List (Int × Int) := ns.flatMap fun n => (m n).map fun i => (i, n)
theorem srcP_fst (ns : List Int) (m : Int → List Int) : (srcP ns m).map (·.1) = ns.flatMap m := by
  unfold srcP
  rw [List.map_flatMap]
  congr 1
  funext n
  rw [List.map_map]
  exact List.map_id _
def blkD : PyData → List Int
  | .tuple ds => ds.map itemI
  | _ => []
/-- the dict of the sources of a dict of blocks -/
def srcD : PyData → PyData
  | .dict kvs => .dict (kvs.flatMap fun p => (blkD p.2).map fun i => (.int i, p.1))
  | _ => .none
theorem blkD_ints (ns : List Int) : blkD (.tuple (ns.map PyData.int)) = ns := by
  show (ns.map PyData.int).map itemI = ns
  rw [List.map_map]
  exact List.map_id _
theorem srcD_eff (ns : List Int) (m : Int → List Int) : srcD (effM ns fun n => .tuple ((m n).map PyData.int)) = dictI (srcP ns m) := by
  show PyData.dict ((ns.map fun n => (PyData.int n, PyData.tuple ((m n).map PyData.int))).flatMap fun p => (blkD p.2).map fun i => (PyData.int i, p.1)) = PyData.dict ((ns.flatMap fun n => (m n).map fun i => (i, n)).map fun p => (PyData.int p.1, PyData.int p.2))
  congr 1
  rw [List.flatMap_map, List.map_flatMap]
  congr 1
  funext n
  rw [blkD_ints, List.map_map]
  rfl
theorem lookup_app {i : Int} : ∀ (p q : List (Int × Int)), (p ++ q).lookup i = (p.lookup i).or (q.lookup i)
  | [], q => by simp
  | (a, b) :: p, q => by
    rw [List.cons_append, List.lookup_cons, List.lookup_cons, lookup_app p q]
    cases i == a <;> rfl
theorem lookup_same {i n : Int} : ∀ l : List Int, (l.map fun k => (k, n)).lookup i = if i ∈ l then some n else none
  | [] => rfl
  | a :: l => by
    rw [List.map_cons, List.lookup_cons, lookup_same l]
    by_cases z : i = a
    · subst z; simp
    · have : (i == a) = false := by simp [z]
      simp only [this, List.mem_cons, z, false_or]
theorem srcP_lookup (m : Int → List Int) (i : Int) : ∀ ns : List Int, (srcP ns m).lookup i = ns.find? fun n => decide (i ∈ m n)
  | [] => rfl
  | n :: ns => by
    show ((m n).map (fun k => (k, n)) ++ srcP ns m).lookup i = _
    rw [lookup_app, lookup_same, srcP_lookup m i ns, List.find?_cons]
    by_cases z : i ∈ m n
    · simp [z]
    · simp [z]
theorem dropB_ne {B : Hp} {a d : Addr} (h : a ≠ d) : dropB B d a = B a := if_neg h
section
variable {K : PySem.W.Frag} {σ : L2.St} {B H : Hp}
/-- {i: s for s, b in d.items() for i in b} -/
theorem evN_srcs {ns : List Int} {m : Int → List Int} {v : V} {i js jb ji : Nat} {vs vs1 : List Nat} (hi : σ[i]? = some (some v)) (hv : Dq K B v (effM ns fun n => .tuple ((m n).map PyData.int))) (e : Ex B H) (hnd : (ns.flatMap m).Nodup) (hln : (ns.flatMap m).length ≤ 1000)
    (hw : ∀ x y, wipe (((wipe σ vs).set js (some x)).set jb (some y)) vs = wipe σ vs := by intro _ _; rfl)
    (hb : ∀ x y, (((wipe σ vs).set js (some x)).set jb (some y))[jb]? = some (some y) := by intro _ _; rfl)
    (hw1 : ∀ x y z, wipe ((wipe (((wipe σ vs).set js (some x)).set jb (some y)) vs1).set ji (some z)) vs1 = wipe (((wipe σ vs).set js (some x)).set jb (some y)) vs1 := by intro _ _ _; rfl)
    (g1 : ∀ x y z, ((wipe (((wipe σ vs).set js (some x)).set jb (some y)) vs1).set ji (some z))[ji]? = some (some z) := by intro _ _ _; rfl)
    (g2 : ∀ x y z, ((wipe (((wipe σ vs).set js (some x)).set jb (some y)) vs1).set ji (some z))[js]? = some (some x) := by intro _ _ _; rfl) :
    EvN K (tLockE (tDc2 (iItems (tVar i)) (gTup K 2 (gCons (gName js) (gCons (gName jb) gNil))) (iTup K (tVar jb)) (gName ji) (tVar ji) (tVar js) vs vs1)) σ B H (dictI (srcP ns m)) := by
  unfold effM at hv
  generalize hE : ns.map (fun n => (PyData.int n, PyData.tuple ((m n).map PyData.int))) = L at hv
  cases hv with
  | dct h hq =>
    rename_i d kvs ds
    obtain ⟨z1, z2⟩ := zip_parts (by have := hq.length; rwa [List.length_map] at this) hE.symm
    subst z2
    refine evN_lock (e d _ h) fun od B1 H1 l1 hd1 => ?_
    have hb1 := l1.b d _ h
    have hq1 := DqAll.off hb1 (hq.mono l1.b)
    have e1 := lock_le (od := od) l1.h hd1
    generalize hBl : dropB B1 d = Bl at hq1 e1 ⊢
    generalize hHl : upd H1 d (.frz od (.dK kvs)) = Hl at e1 ⊢
    have hdl : Hl d = some (.frz od (.dK kvs)) := by rw [← hHl]; exact upd_same
    clear hHl hBl
    intro B2 H2 l2 Q q
    have hd2 := l2.k d _ (by simp) hdl
    refine ⟨.ref d, hi, d, od, kvs, rfl, hd2, fun D hD => ?_⟩
    have W := walk_items (d := d) (o := od) (kvs := kvs)
    have kl : kvs.length = ns.length := by have := congrArg List.length z1; rwa [List.length_map, List.length_map] at this
    have hDb := none_of l2.h hD
    have hsl : 1000 < sizeLine := by rw [sizeLine_eq]; decide
    refine ⟨fun t k Hi => k = ns.length - t ∧ t ≤ ns.length ∧ ∃ Bi, Le [] B2 H2 Bi Hi ∧ Bi D = none ∧ Hi D = some (.dK (kvI (srcP (ns.take t) m))), ⟨_, rfl, Nat.zero_le _, B2, Le.made l2.h hD, hDb, upd_same⟩, ?_⟩
    rintro t k Hi ⟨rfl, ht, Bi, le, hbi, hh⟩
    have G : Hi d = some (.frz od (.dK kvs)) := le.k d _ (by simp) hd2
    by_cases hlt : t < ns.length
    · have en : ns[t]? = some ns[t] := List.getElem?_eq_getElem hlt
      have htk : ns.take (t + 1) = ns.take t ++ [ns[t]] := by rw [List.take_add_one, en]; rfl
      have hsplit : ns.flatMap m = (ns.take t).flatMap m ++ (m ns[t] ++ (ns.drop (t + 1)).flatMap m) := by
        have : ns = ns.take t ++ (ns[t] :: ns.drop (t + 1)) := by rw [List.getElem_cons_drop, List.take_append_drop]
        conv => lhs; rw [this]
        rw [List.flatMap_append, List.flatMap_cons]
      refine .inr ⟨W.goes t Hi (by omega) G, fun Hn => ∃ Bi, Le [] B2 H2 Bi Hn ∧ Bi D = none ∧ Hn D = some (.dK (kvI (srcP (ns.take (t + 1)) m))), fun Hn p => ⟨ns.length - (t + 1), by omega, rfl, hlt, p⟩, fun x Hy y => ?_⟩
      obtain ⟨T, x1, x2, rfl, hT, rfl, f1, f2⟩ := W.yields t Hi x Hy (by omega) G y
      -- the entry
      obtain ⟨kk, yv, ekv⟩ : ∃ kk yv, kvs[t]? = some (kk, yv) := ⟨_, _, List.getElem?_eq_getElem (by omega)⟩
      have ekk : kk = .inl ns[t] := by
        have := congrArg (fun l => l[t]?) z1
        simp only [List.getElem?_map, ekv, en, Option.map_some] at this
        exact Option.some.inj this
      dsimp only at f1 f2
      rw [ekv] at f1 f2
      subst ekk
      cases f1
      cases f2
      obtain ⟨dd, ed, hy⟩ := (hq1.mono (l2.trans le).b).get (i := t) (v := yv) (by rw [List.getElem?_map, ekv]; rfl)
      rw [List.getElem?_map, en] at ed
      cases ed
      have ln := Le.new (M := []) (o := .tup [.int ns[t], yv]) le.h hT
      have hTD : T ≠ D := fun z => by rw [z, hh] at hT; cases hT
      have hh2 : (upd Hi T (.tup [.int ns[t], yv])) D = some (.dK (kvI (srcP (ns.take t) m))) := by rw [upd_ne (Ne.symm hTD)]; exact hh
      have hb2 : (upd Bi T (.tup [.int ns[t], yv])) D = none := by rw [upd_ne (Ne.symm hTD)]; exact hbi
      have hy2 := hy.mono ln.b
      refine ⟨T, [.int ns[t], yv], rfl, .inl (.inl upd_same), rfl, .int ns[t], [yv], rfl, yv, [], rfl, rfl, hw _ _, ?_⟩
      cases hy2 with
      | tup hs hqt =>
        rename_i a ys
        cases ofInts hqt
        refine ⟨.ref a, hb _ _, a, rfl, ⟨_, Evl.ex_t ln.h hs⟩, fun j kk Hj => kk = (m ns[t]).length - j ∧ j ≤ (m ns[t]).length ∧ ∃ Bj, Le [D] (upd Bi T (.tup [.int ns[t], .ref a])) (upd Hi T (.tup [.int ns[t], .ref a])) Bj Hj ∧ Bj D = none ∧ Hj D = some (.dK (kvI (srcP (ns.take t) m ++ ((m ns[t]).take j).map fun i => (i, ns[t])))), ⟨_, rfl, Nat.zero_le _, _, Le.refl ln.h, hb2, by rw [List.take_zero, List.map_nil, List.append_nil]; exact hh2⟩, ?_⟩
        rintro j kk Hj ⟨rfl, hj, Bj, lj, bj, hj2⟩
        have hsq : SqT K Hj a ((m ns[t]).map V.int) := Evl.ex_t (lj.b.trans lj.h) hs
        by_cases hlt2 : j < (m ns[t]).length
        · have hz : (m ns[t])[j]? = some (m ns[t])[j] := List.getElem?_eq_getElem hlt2
          have hzv : ((m ns[t]).map V.int)[j]? = some (.int (m ns[t])[j]) := by rw [List.getElem?_map, hz]; rfl
          have htk2 : (m ns[t]).take (j + 1) = (m ns[t]).take j ++ [(m ns[t])[j]] := by rw [List.take_add_one, hz]; rfl
          refine .inr ⟨⟨_, _, hsq, hzv⟩, fun Hn => ∃ Bj, Le [D] (upd Bi T (.tup [.int ns[t], .ref a])) (upd Hi T (.tup [.int ns[t], .ref a])) Bj Hn ∧ Bj D = none ∧ Hn D = some (.dK (kvI (srcP (ns.take t) m ++ ((m ns[t]).take (j + 1)).map fun i => (i, ns[t])))), fun Hn p' => ⟨(m ns[t]).length - (j + 1), by omega, rfl, hlt2, p'⟩, fun x2 Hy2 y2 => ?_⟩
          obtain ⟨rfl, y2⟩ := y2
          have ex3 : x2 = .int (m ns[t])[j] := Option.some.inj ((y2 _ hsq).symm.trans hzv)
          subst ex3
          have keys : (srcP (ns.take t) m ++ ((m ns[t]).take j).map fun i => (i, ns[t])).map (·.1) = (ns.take t).flatMap m ++ (m ns[t]).take j := by
            rw [List.map_append, srcP_fst, List.map_map]
            congr 1
            exact List.map_id _
          have fresh : (m ns[t])[j] ∉ (srcP (ns.take t) m ++ ((m ns[t]).take j).map fun i => (i, ns[t])).map (·.1) := by
            rw [keys]
            have hsp2 : ns.flatMap m = ((ns.take t).flatMap m ++ (m ns[t]).take j) ++ ((m ns[t])[j] :: ((m ns[t]).drop (j + 1) ++ (ns.drop (t + 1)).flatMap m)) := by
              rw [hsplit]
              conv => lhs; rw [show m ns[t] = (m ns[t]).take j ++ ((m ns[t])[j] :: (m ns[t]).drop (j + 1)) by rw [List.getElem_cons_drop, List.take_append_drop]]
              simp only [List.append_assoc, List.cons_append]
            rw [hsp2] at hnd
            intro hm
            exact (List.nodup_append.mp hnd).2.2 _ hm _ (List.mem_cons_self ..) rfl
          refine ⟨hw1 _ _ _, .int (m ns[t])[j], g1 _ _ _, .int ns[t], g2 _ _ _, _, .inl (m ns[t])[j], rfl, hj2, ?_, Bj, lj.trans (Le.put lj.h bj (by simp)), bj, ?_⟩
          · have h1 : (kvI (srcP (ns.take t) m ++ ((m ns[t]).take j).map fun i => (i, ns[t]))).length ≤ 1000 := by
              unfold kvI
              have := congrArg List.length keys
              rw [List.length_map] at this
              rw [List.length_map, this, List.length_append, List.length_take]
              rw [hsplit, List.length_append, List.length_append] at hln
              omega
            omega
          · rw [upd_same, kvI_put fresh, htk2, List.map_append, List.append_assoc]
            rfl
        · refine .inl ⟨⟨_, hsq, by rw [List.length_map]; omega⟩, ?_⟩
          have ej : j = (m ns[t]).length := by omega
          subst ej
          refine ⟨Bj, ((le.any.trans ln.any).trans lj).local hD, bj, ?_⟩
          rw [hj2, List.take_length, htk]
          congr 3
          unfold srcP
          rw [List.flatMap_append, List.flatMap_cons, List.flatMap_nil, List.append_nil]
    · have et : t = ns.length := by omega
      subst et
      refine .inl ⟨by rw [← kl]; exact W.stops Hi G, ?_⟩
      rw [List.take_length] at hh
      have lg := le.give hD hbi hh
      exact q (.ref D) _ Hi lg ⟨D, rfl, hD⟩ (dq_dictI upd_same)
end
end MA

set_option maxRecDepth 100000
set_option maxHeartbeats 2000000
namespace PySem
open Sem (wp)
section
variable {prog : Program} {w : World} {A : Around} {R : Result → Shared → Prop} {I l : Addr} {items : Array Value}
abbrev lstO (xs : List Value) (k : Nat) : Obj := { cls := .type "list", data := .seq xs.toArray k }
theorem sumL_loop (hh : A.handled = none) (hIl : l ≠ I) (h0 : Heap) (X T : Nat → List Value) (hT : ∀ i, i < items.size → T (i + 1) = T i ++ X i) (hz : ∀ i, i ≤ items.size → (T i).length ≤ sizeLine)
    (hval : ∀ i v, items[i]? = some v → ∃ b k, v = .ref b ∧ b ≠ I ∧ h0.get? b = some (lstO (X i) k)) (S : Addr) (hSI : S ≠ I) (hSl : S ≠ l) (hS0 : h0.get? S = none) :
    ∀ (k i : Nat) (s : Shared) (c ck cc : Nat), items.size - i = k → i ≤ items.size → (s.heap.IsListIter I l i ∧ s.heap.IsList l items) → (∀ b o, b ≠ I → h0.get? b = some o → s.heap.get? b = some o) → s.heap.get? S = some { cls := .type "list", dict := none, data := .seq #[.ref c] cc, slots := #[] } →
    s.heap.get? c = some (lstO (T i) ck) → (i = 0 ∨ h0.get? c = none) → c ≠ I → c ≠ S →
    (∀ h' tk c' k', (∀ b o, b ≠ I → h0.get? b = some o → h'.get? b = some o) → h'.get? c' = some (lstO (T items.size) k') → (items.size = 0 ∨ h0.get? c' = none) → R (.ok (.ret (.ref c'))) { s with heap := h', toks := tk }) →
    codeAny (model prog w) A (.builtin "sum.loop" ⟨[.ref I, .ref S, rawInt 2, rawInt 0], []⟩) R s := by
  have W := Walks.list (prog := prog) (w := w) (A := A.in1) hh I l hIl items
  have hSw : S ∉ [I] := by simp [hSI]
  have hSf : ∀ b ∈ [I, l], S ≠ b := by
    intro b hb
    simp only [List.mem_cons, List.mem_nil_iff, or_false] at hb
    rcases hb with rfl | rfl
    · exact hSI
    · exact hSl
  intro k
  induction k with
  | zero =>
    intro i s c ck cc hk hi hst hkp hS hc hc0 hcw hcS hR
    have hin : i = items.size := by omega
    subst hin
    refine codeAny_builtin F.entry_sum_loop ?_
    rw [Around.under_plainId F.plain_sum_loop _]
    show wpAny _ A.in1 (seqItems? (.ref S) >>= _) _ _ s
    refine wpAny_bind (wpAny_seqItems hS rfl ?_)
    show wpAny _ A.in1 (tryCatch (pyNext (.ref I)) _ >>= _) _ _ s
    refine wpAny_bind (wpAny_tryCatch (W.done s _ _ hst fun h' tk hk' => ?_))
    exact wpAny_pure (hR h' tk c ck (fun b o hb e => hk' b o (by simp [hb]) (hkp b o hb e)) (hk' c _ (by simp [hcw]) hc) hc0)
  | succ k ih =>
    intro i s c ck cc hk hi hst hkp hS hc hc0 hcw hcS hR
    have hlt : i < items.size := by omega
    refine codeAny_builtin F.entry_sum_loop ?_
    rw [Around.under_plainId F.plain_sum_loop _]
    show wpAny _ A.in1 (seqItems? (.ref S) >>= _) _ _ s
    refine wpAny_bind (wpAny_seqItems hS rfl ?_)
    show wpAny _ A.in1 (tryCatch (pyNext (.ref I)) _ >>= _) _ _ s
    refine wpAny_bind (wpAny_tryCatch (W.item i s _ _ hlt hst fun v h' tk hP hst' hk' => ?_))
    obtain ⟨b, bk, rfl, hbw, hb0⟩ := hval i v hP
    have hS' := hk' S _ hSw hS
    have hc' := hk' c _ (by simp [hcw]) hc
    have hb' := hk' b _ (by simp [hbw]) (hkp b _ hbw hb0)
    have hkp' : ∀ b o, b ≠ I → h0.get? b = some o → h'.get? b = some o := fun b o hb e => hk' b o (by simp [hb]) (hkp b o hb e)
    show wpAny _ A.in1 ((holding [Value.ref b] (binaryOp .Add (.ref c) (.ref b))).attempt >>= _) _ _ _
    refine wpAny_bind (wpAny_attempt (wpAny_holding (PySem.P.add_list hc' hb' ?_ (by rw [List.size_toArray, List.size_toArray, ← List.length_append, ← hT i hlt]; exact hz _ hlt))))
    have eo : ({ cls := .type "list", data := .seq ((T i).toArray ++ (X i).toArray) } : Obj) = lstO (T (i + 1)) 0 := by rw [hT i hlt]; simp [lstO]
    rw [eo]
    have hNn : h'.get? h'.objs.size = none := Heap.get?_none_of_le (Nat.le_refl _)
    have hN1 : (h'.push (lstO (T (i + 1)) 0)).get? h'.objs.size = some (lstO (T (i + 1)) 0) := Heap.get?_push_size _ rfl
    have hp1 : ∀ b o, h'.get? b = some o → (h'.push (lstO (T (i + 1)) 0)).get? b = some o := fun b o e => Heap.get?_push_of_some _ e
    show wpAny _ A.in1 (updateSeq S (fun _ => #[.ref h'.objs.size]) >>= _) _ _ { s with heap := h'.push (lstO (T (i + 1)) 0), toks := tk }
    generalize h'.objs.size = N at hNn hN1
    generalize h'.push (lstO (T (i + 1)) 0) = h1 at hN1 hp1
    have hNS : N ≠ S := fun z => by rw [z, hS'] at hNn; cases hNn
    have hNI : N ≠ I := fun z => by
      obtain ⟨⟨o, e, _⟩, _⟩ := hst'
      rw [← z, hNn] at e
      cases e
    have hN0 : h0.get? N = none := by
      cases z : h0.get? N with
      | none => rfl
      | some o =>
        have := hkp' N o hNI z
        rw [hNn] at this
        cases this
    have hS1 := hp1 S _ hS'
    refine wpAny_bind ?_
    refine wpAny_updateSeq hS1 rfl ?_
    have hS2 := Heap.get?_update_self (Obj.mapSeq fun _ => #[Value.ref N]) hS1 rfl
    refine wpAny_bind (wpAny_letGo ?_)
    refine wpAny_bind ?_
    refine wpAny_updateSeq hS2 rfl (wpAny_pure ⟨plainId_quiet F.plain_sum_loop _, ?_⟩)
    have two : ∀ b o, b ≠ S → h1.get? b = some o → ((h1.update S (Obj.mapSeq fun _ => #[Value.ref N])).update S (Obj.mapSeq fun _ => #[Value.ref N])).get? b = some o := fun b o hb e =>
      (Heap.get?_update_other _ _ (Ne.symm hb)).trans ((Heap.get?_update_other _ _ (Ne.symm hb)).trans e)
    refine ih (i + 1) _ N 0 _ (by omega) hlt (W.frame _ _ _ hst' fun b hb o e => two b o (Ne.symm (hSf b hb)) (hp1 b o e)) (fun b o hb e => two b o (fun z => by rw [z, hS0] at e; cases e) (hp1 b o (hkp' b o hb e))) (Heap.get?_update_self _ hS2 rfl) (two N _ hNS hN1) (.inr hN0) hNI hNS fun h'' tk'' c'' k'' hk'' hc'' hn'' => hR h'' tk'' c'' k'' hk'' hc'' hn''
end
section
variable {prog : Program} {w : World} {A : Around} {E : Value → Shared → Prop} {s : Shared} {l c0 : Addr} {items : Array Value}
namespace F
theorem args_sum2 (a b : Value) : argsOk "sum" ⟨[a, b], []⟩ := by unfold argsOk; kernel_rfl
end F
theorem call_sumL {ck : Nat} {Q : Value → Shared → Prop} (hh : A.handled = none) (hl : s.heap.IsList l items) (X T : Nat → List Value) (hc : s.heap.get? c0 = some (lstO (T 0) ck)) (hT : ∀ i, i < items.size → T (i + 1) = T i ++ X i) (hz : ∀ i, i ≤ items.size → (T i).length ≤ sizeLine)
    (hval : ∀ i v, items[i]? = some v → ∃ b k, v = .ref b ∧ s.heap.get? b = some (lstO (X i) k)) (hpos : 0 < items.size)
    (h : ∀ h' tk c' k', (∀ b o, s.heap.get? b = some o → h'.get? b = some o) → s.heap.get? c' = none → h'.get? c' = some (lstO (T items.size) k') → Q (.ref c') { s with heap := h', toks := tk }) :
    wpAny (model prog w) A (call (.builtin "sum") [.ref l, .ref c0]) Q E s := by
  refine call_function_tree F.kind_sum F.plain_sum F.entry_sum (F.args_sum2 _ _) ?_
  unfold Builtin.«sum»
  simp only [List.length_cons, List.length_nil]
  rw [if_neg (by decide)]
  refine wpAny_bind (wpAny_of_eq (show Builtin.Builtins.bindParams "sum" ["start"] 0 { pos := [Value.ref c0] } = pure [some (.ref c0)] from rfl) ?_)
  have hlt : l < s.heap.objs.size := by obtain ⟨_, e, _⟩ := hl; exact Heap.lt_size e
  refine wpAny_bind (wpAny_pyIter_list hl ?_)
  generalize hI : s.heap.objs.size = I at hlt ⊢
  have hIn : s.heap.get? I = none := Heap.get?_none_of_le (by rw [hI]; exact Nat.le_refl _)
  have hk0 : ∀ b o, s.heap.get? b = some o → (s.heap.push { cls := .type "list_iterator", data := .fields #[.ref l, .int 0 0] }).get? b = some o := fun b o e => Heap.get?_push_of_some _ e
  have hIter : (s.heap.push { cls := .type "list_iterator", data := .fields #[.ref l, .int 0 0] }).IsListIter I l 0 := ⟨_, by rw [← hI]; exact Heap.get?_push_size _ rfl, rfl, rfl⟩
  have hl1 := hl.push { cls := .type "list_iterator", data := .fields #[.ref l, .int 0 0] }
  have hsz1 : (s.heap.push { cls := .type "list_iterator", data := .fields #[.ref l, .int 0 0] }).objs.size = I + 1 := by rw [Heap.size_push, hI]
  have hold : ∀ b, (s.heap.push { cls := .type "list_iterator", data := .fields #[.ref l, .int 0 0] }).get? b = none → s.heap.get? b = none := fun b e => by
    cases z : s.heap.get? b with
    | none => rfl
    | some o => rw [hk0 b o z] at e; cases e
  generalize s.heap.push { cls := .type "list_iterator", data := .fields #[.ref l, .int 0 0] } = h1 at hk0 hIter hl1 hsz1 hold
  have hc1 := hk0 c0 _ hc
  refine wpAny_bind (wpAny_pure ?_)
  simp only [List.forIn_cons, List.forIn_nil]
  have tl : (⟨h1, s.gens, s.drawn, s.toks, s.os⟩ : Shared).TypeIs (.ref c0) "list" := Heap.IsList.typeIs ⟨_, hc1, rfl, _, rfl⟩
  refine wpAny_bind (wpAny_bind (wpAny_bind (wpAny_isInstance (T := "list") (b := false) tl F.sub_list_str ?_)))
  simp only [Bool.false_eq_true, if_false]
  refine wpAny_pure (wpAny_bind (wpAny_bind (wpAny_isInstance (T := "list") (b := false) tl F.sub_list_bytes ?_)))
  simp only [Bool.false_eq_true, if_false]
  refine wpAny_pure (wpAny_bind (wpAny_bind (wpAny_isInstance (T := "list") (b := false) tl F.sub_list_bytearray ?_)))
  simp only [Bool.false_eq_true, if_false]
  refine wpAny_pure (wpAny_pure ?_)
  refine wpAny_bind (wpAny_newObj_type ?_)
  have hSn : h1.get? h1.objs.size = none := Heap.get?_none_of_le (Nat.le_refl _)
  have hSI : h1.objs.size ≠ I := by rw [hsz1]; omega
  have hSl : h1.objs.size ≠ l := fun z => Nat.lt_asymm hlt (by rw [← z, hsz1]; exact Nat.lt_succ_self I)
  refine wpAny_pure ⟨plainId_quiet F.plain_sum_loop _, ?_⟩
  have hcI : c0 ≠ I := fun z => by rw [z, hIn] at hc; cases hc
  have hcS : c0 ≠ h1.objs.size := fun z => by rw [z, hSn] at hc1; cases hc1
  refine sumL_loop hh (Nat.ne_of_lt hlt) h1 X T hT hz (fun i v hv => ?_) h1.objs.size hSI hSl hSn items.size 0 _ c0 ck _ rfl (Nat.zero_le _) ⟨hIter.at fun o e => Heap.get?_push_of_some _ e, hl1.push _⟩ (fun b o _ e => Heap.get?_push_of_some _ e) (Heap.get?_push_size _ rfl) (Heap.get?_push_of_some _ hc1) (.inl rfl) hcI hcS fun h' tk c' k' hk hc' hn => ?_
  · obtain ⟨b, k, e, hb⟩ := hval i v hv
    refine ⟨b, k, e, ?_, hk0 b _ hb⟩
    intro z
    rw [z, hIn] at hb
    cases hb
  · refine h h' tk c' k' (fun b o e => hk b o (fun z => by rw [z, hIn] at e; cases e) (hk0 b o e)) ?_ hc'
    rcases hn with z | z
    · omega
    · exact hold c' z
end
end PySem
namespace MA
open PySem PySem.Spec PyProof.Rows L2
theorem _root_.L2.ObjOk.there {P : Program} {w : World} {H : Hp} {h : Heap} {a : Addr} {o : HO} (x : ObjOk P w H h a o) : ∃ u, h.get? a = some u := by
  induction o with
  | lst xs => obtain ⟨_, _, _, _, e⟩ := x; exact ⟨_, e⟩
  | tup xs => obtain ⟨_, _, _, ob, e, _⟩ := x; exact ⟨_, e⟩
  | dK kvs => obtain ⟨_, _, _, _, ob, es, ep, e, _⟩ := x; exact ⟨_, e⟩
  | dT kvs => obtain ⟨_, _, _, _, ob, es, ep, e, _⟩ := x; exact ⟨_, e⟩
  | set S n => obtain ⟨ob, es, ep, t, e, c⟩ := x; exact ⟨_, e⟩
  | ins C dx fs => obtain ⟨_, _, _, e, _⟩ := x; exact ⟨_, e⟩
  | own y => obtain ⟨ob, e⟩ := x; exact ⟨_, e⟩
  | xd fs => obtain ⟨_, ⟨od, es, ep, e, c⟩, _⟩ := x; exact ⟨_, e⟩
  | rng lo hi => obtain ⟨t, u, v, e⟩ := x; exact ⟨_, e⟩
  | frz ob u ih => obtain ⟨e, _⟩ := x; exact ⟨_, e⟩
  | tbl ps => exact ⟨_, (show h.get? a = some _ from x)⟩
  | met f y => exact ⟨_, (show h.get? a = some _ from x)⟩
  | ext φ => obtain ⟨_, ⟨_, e⟩, _⟩ := x; exact ⟨_, e⟩
/-- sum(parts, start): lists, one at least -/
def rSumL : List V → Hp → VK → Prop := fun vs H Q => ∃ (a c : Addr) (ps : List (Addr × List V)), vs = [V.ref a, V.ref c] ∧ H a = some (.lst (ps.map fun p => V.ref p.1)) ∧ H c = some (.lst []) ∧ (∀ p ∈ ps, H p.1 = some (.lst p.2)) ∧ ps ≠ [] ∧ (ps.flatMap (·.2)).length ≤ 100000 ∧
  ∀ p, H p = none → Q (.ref p) (upd H p (.lst (ps.flatMap (·.2))))
theorem cr_sumL {X : Cx} (hcalm : X.calm = true) : CallR X (.builtin "sum") rSumL := by
  intro pins s σ H vs us Q I r h
  obtain ⟨a, c, ps, rfl, ha, hc, hp, hne, hsz, q⟩ := h
  obtain ⟨u1, u2, rfl, r1, r2⟩ := vals2 r
  cases r1
  cases r2
  obtain ⟨z, its, n, rv, hl, e⟩ := I.lstM ha
  obtain ⟨zc, itc, nc, rvc, hlc, ec⟩ := I.lstM hc
  have hitc : itc = [] := List.length_eq_zero_iff.mp (by rw [← hlc]; rfl)
  subst hitc
  -- the contents of the parts
  have hparts : ∃ X : Nat → List Value, ∀ (i : Nat) (p : Addr × List V), ps[i]? = some p → Vals p.2 (X i) ∧ ∃ k, s.heap.get? p.1 = some (lstO (X i) k) := by
    have : ∀ i : Nat, ∃ x : List Value, ∀ p : Addr × List V, ps[i]? = some p → Vals p.2 x ∧ ∃ k, s.heap.get? p.1 = some (lstO x k) := fun i => by
      cases hi : ps[i]? with
      | none => exact ⟨[], fun p hp => by cases hp⟩
      | some p =>
        obtain ⟨_, ip, np, rp, _, ep⟩ := I.lstM (hp p (List.mem_of_getElem? hi))
        exact ⟨ip, fun p' hp' => by cases hp'; exact ⟨rp, np, ep⟩⟩
    exact ⟨fun i => (this i).choose, fun i => (this i).choose_spec⟩
  obtain ⟨X', hX⟩ := hparts
  have hlen : its.length = ps.length := by rw [← hl, List.length_map]
  have hTv : ∀ i, i ≤ ps.length → Vals ((ps.take i).flatMap (·.2)) ((List.range i).flatMap X') := by
    intro i
    induction i with
    | zero => intro _; exact .nil
    | succ i ih =>
      intro hi
      have hg : ps[i]? = some ps[i] := List.getElem?_eq_getElem (by omega)
      rw [List.take_add_one, hg, List.range_succ, List.flatMap_append, List.flatMap_append]
      simp only [Option.toList, List.flatMap_cons, List.flatMap_nil, List.append_nil]
      exact (ih (by omega)).append (hX i _ hg).1
  have hlen2 : ∀ i, i ≤ ps.length → ((ps.take i).flatMap (·.2)).length ≤ (ps.flatMap (·.2)).length := fun i _ => by
    conv => rhs; rw [← List.take_append_drop i ps, List.flatMap_append, List.length_append]
    omega
  have hsl : 100000 < sizeLine := by rw [sizeLine_eq]; decide
  refine call_sumL (I.ok.hd hcalm) ⟨_, e, rfl, _, rfl⟩ X' (fun i => (List.range i).flatMap X') ec (fun i _ => by rw [List.range_succ, List.flatMap_append]; simp) (fun i hi => ?_) (fun i v hv => ?_) ?_ fun h' tk c' k' hk hn hc' => ?_
  · rw [List.size_toArray, hlen] at hi
    rw [← (hTv i hi).length]
    have := hlen2 i hi
    omega
  · have hv' : its[i]? = some v := by simpa using hv
    have hi : i < ps.length := by
      have := (List.getElem?_eq_some_iff.mp hv').1
      omega
    have hg : ps[i]? = some ps[i] := List.getElem?_eq_getElem hi
    obtain ⟨u, hu, ru⟩ := rv.get (i := i) (x := V.ref ps[i].1) (by rw [List.getElem?_map, hg]; rfl)
    rw [hv'] at hu
    cases hu
    obtain ⟨_, k, ek⟩ := hX i _ hg
    exact ⟨_, k, ru, ek⟩
  · rw [List.size_toArray, hlen]
    cases ps with
    | nil => exact absurd rfl hne
    | cons _ _ => simp
  · rw [List.size_toArray, hlen] at hc'
    have hv := hTv ps.length (Nat.le_refl _)
    rw [List.take_length] at hv
    have hHn : H c' = none := by
      cases z : H c' with
      | none => rfl
      | some o =>
        obtain ⟨u, e⟩ := (I.hok c' o z).there
        rw [hn] at e
        cases e
    exact ⟨.ref c', upd H c' (.lst (ps.flatMap (·.2))), I.laidN (t' := tk) hk hn hHn (show ObjOk X.prog X.w _ _ _ (.lst (ps.flatMap (·.2))) from ⟨by omega, _, k', hv, hc'⟩), rfl, q _ hHn⟩
end MA

set_option maxRecDepth 100000
set_option maxHeartbeats 2000000
namespace MA
open PySem PySem.Spec PyProof.Rows L2
/-! ## repr of a dict of blocks -/
theorem kv_sh {k w : Nat} {F : Int → PyData} : ∀ {ns : List Int}, (∀ n ∈ ns, (0 ≤ n ∧ n < 60) ∧ Pl k w (F n)) → PyData.showableKv (ns.map fun n => (PyData.int n, F n)) = true
  | [], _ => by simp [PyData.showableKv]
  | n :: ns, h => by
    have h1 := h n (List.mem_cons_self ..)
    simp only [List.map_cons, PyData.showableKv, (pl_int h1.1.1 h1.1.2).1.sh, h1.2.1.sh, kv_sh fun x hx => h x (List.mem_cons_of_mem _ hx), Bool.and_self]
theorem kv_lf {k w : Nat} {F : Int → PyData} : ∀ {ns : List Int}, (∀ n ∈ ns, (0 ≤ n ∧ n < 60) ∧ Pl k w (F n)) → PyData.leavesShortKv 30 (ns.map fun n => (PyData.int n, F n)) = true
  | [], _ => by simp [PyData.leavesShortKv]
  | n :: ns, h => by
    have h1 := h n (List.mem_cons_self ..)
    simp only [List.map_cons, PyData.leavesShortKv, (pl_int h1.1.1 h1.1.2).1.lf, h1.2.1.lf, kv_lf fun x hx => h x (List.mem_cons_of_mem _ hx), Bool.and_self]
theorem kv_wt {k w : Nat} {F : Int → PyData} : ∀ {ns : List Int}, (∀ n ∈ ns, (0 ≤ n ∧ n < 60) ∧ Pl k w (F n)) → PyData.weightKv (ns.map fun n => (PyData.int n, F n)) ≤ ns.length * (w + 72)
  | [], _ => by simp [PyData.weightKv]
  | n :: ns, h => by
    have h1 := h n (List.mem_cons_self ..)
    have h2 := kv_wt fun x hx => h x (List.mem_cons_of_mem n hx)
    have h3 := (pl_int h1.1.1 h1.1.2).1.wt
    have h4 := h1.2.1.wt
    simp only [List.map_cons, PyData.weightKv, List.length_cons, Nat.add_mul, Nat.one_mul] at h2 ⊢
    omega
theorem kv_dp {k w : Nat} {F : Int → PyData} : ∀ {ns : List Int}, (∀ n ∈ ns, (0 ≤ n ∧ n < 60) ∧ Pl k w (F n)) → PyData.depthKv (ns.map fun n => (PyData.int n, F n)) ≤ k
  | [], _ => by simp [PyData.depthKv]
  | n :: ns, h => by
    have h1 := h n (List.mem_cons_self ..)
    have h2 := kv_dp fun x hx => h x (List.mem_cons_of_mem n hx)
    have h3 := (pl_int h1.1.1 h1.1.2).1.dp
    have h4 := h1.2.1.dp
    simp only [List.map_cons, PyData.depthKv]
    omega
theorem kv_nl {k w : Nat} {F : Int → PyData} : ∀ {ns : List Int}, (∀ n ∈ ns, (0 ≤ n ∧ n < 60) ∧ Pl k w (F n)) → noListKv (ns.map fun n => (PyData.int n, F n)) = true
  | [], _ => by simp [noListKv]
  | n :: ns, h => by
    have h1 := h n (List.mem_cons_self ..)
    simp only [List.map_cons, noListKv, (pl_int h1.1.1 h1.1.2).2.1, h1.2.2.1, kv_nl fun x hx => h x (List.mem_cons_of_mem _ hx), Bool.and_self]
theorem ov_eff {k w : Nat} {F : Int → PyData} {ns : List Int} (h : ∀ n ∈ ns, (0 ≤ n ∧ n < 60) ∧ Pl k w (F n)) (hl : ns.length ≤ 60) (hw : 60 * (w + 72) ≤ 400000) (hk : k ≤ 5) : Ov (effM ns F) := by
  refine ⟨⟨⟨?_, ?_, ?_, ?_⟩, .inr ?_⟩, by show 0 ≤ 1000; decide⟩
  · unfold effM; simp only [PyData.showable]; exact kv_sh h
  · unfold effM; simp only [PyData.leavesShort]; exact kv_lf h
  · unfold effM; simp only [PyData.weight]; exact Nat.le_trans (kv_wt h) (Nat.le_trans (Nat.mul_le_mul_right _ hl) hw)
  · unfold effM; simp only [PyData.depth]; have := kv_dp h; omega
  · unfold effM; simp only [noList]; exact kv_nl h
section
variable {K : PySem.W.Frag} {g : Addr} {σ : L2.St} {B H : Hp} {ta tb te : TE} {t u : TT} {D : Ends} {tu tw tz : TS} {R : PyData → Prop}
/-! ## tests with draws -/
theorem ebt_notB {k : Bool} (h : Eb K g te σ B H (· = .bool k)) : EbT g (tNot (tB te)) σ B H (· = !k) := fun B1 H1 l b Q q => h B1 H1 l b _ fun d v B2 H2 r l2 b2 hv => by
  subst r
  cases hv
  exact ⟨k, rfl, q (!k) B2 H2 rfl l2 b2⟩
theorem b_whenF (h : EbT g t σ B H (· = false)) (e : Ex B H) (b : Bag g B H) (q : ∀ B' H', Le [g] B H B' H' → Bag g B' H' → tz D σ H') : tSeq (tIfS t tu tNext) tz D σ H :=
  h B H (Le.refl e) b _ fun k B' H' pk l b' => by
    subst pk
    exact q B' H' l b'
theorem q_whenB {k : Bool} (I : L2.St → Hp → Hp → Prop) (h : EvT t σ B H k) (e : Ex B H) (b : Bag g B H) (h1 : k = true → ∀ B' H', Le [] B H B' H' → Bag g B' H' → ∀ N : L2.St → Hp → Prop, (∀ σ' B2 H2, Le [g] B' H' B2 H2 → Bag g B2 H2 → I σ' B2 H2 → N σ' H2) → tu { D with nx := N } σ H') (h2 : k = false → ∀ B' H', Le [] B H B' H' → I σ B' H')
    (hz : ∀ σ' B' H', Le [g] B H B' H' → Bag g B' H' → I σ' B' H' → tz D σ' H') : tSeq (tIfS t tu tNext) tz D σ H :=
  q_when h e (fun hk B' H' l => h1 hk B' H' l (b.pure l) _ fun σ' B2 H2 l2 b2 i => hz σ' B2 H2 (l.any.trans l2) b2 i) fun hk B' H' l => hz σ B' H' l.any (b.pure l) (h2 hk B' H' l)
/-! ## [.. for k in range(n)], drawn -/
theorem eb_lcR {n : Nat} {j : Nat} {vs : List Nat} (hn : n ≤ 1000) (he : ∀ (i : Nat) B1 H1, Le [g] B H B1 H1 → i < n → Eb K g te ((wipe σ vs).set j (some (.int (i : Nat)))) B1 H1 R)
    (hw : ∀ x, wipe ((wipe σ vs).set j (some x)) vs = wipe σ vs := by intro _; rfl) :
    Eb K g (tLc (iRng1 (tCons (tC (.int (n : Nat))) tNil)) (gName j) tYes te vs) σ B H (fun d => ∃ ds, d = .list ds ∧ ds.length = n ∧ ∀ d ∈ ds, R d) := fun B1 H1 l1 b1 Q q => by
  refine ⟨(n : Nat), rfl, by omega, by omega, fun D hD => ?_⟩
  rw [show ((n : Nat) : Int).toNat = n by omega]
  have hDb := none_of l1.h hD
  have hDg := b1.ne hD
  have hsl : 1000 < sizeLine := by rw [sizeLine_eq]; decide
  refine lc_range (lo := 0) (n := n) (fun i Hi => ∃ (Bi : Hp) (acc : List V) (ds : List PyData), Le [D, g] B1 H1 Bi Hi ∧ Bag g Bi Hi ∧ Bi D = none ∧ Hi D = some (.lst acc) ∧ DqAll K Bi acc ds ∧ ds.length = i ∧ ∀ d ∈ ds, R d) ?_ ?_ ?_
  · obtain ⟨x, y, z, hg⟩ := b1.has
    exact ⟨B1, [], [], Le.made l1.h hD, ⟨b1.own, x, y, z, by rw [upd_ne (Ne.symm hDg)]; exact hg⟩, hDb, upd_same, .nil, rfl, by simp⟩
  · rintro i Hi hi ⟨Bi, acc, ds, li, bi, di, dl, dq, ln, hr⟩
    refine ⟨hw _, ?_⟩
    refine yes_i ?_
    rw [if_pos rfl, Int.zero_add]
    have lloc := l1.trans (li.local hD)
    refine he i Bi Hi lloc hi Bi Hi (Le.refl li.h) bi _ fun d v B2 H2 r l2 b2 hv => ?_
    have dl2 := l2.k D _ (by simp [hDg]) dl
    have d2 := l2.own dl di
    have hln := dq.length
    refine ⟨acc, dl2, by omega, B2, acc ++ [v], ds ++ [d], ?_, ?_, d2, upd_same, (dq.mono l2.b).append (.cons hv .nil), by simp [ln], fun x hx => ?_⟩
    · exact (li.trans (l2.wk (by simp))).trans (Le.put l2.h d2 (by simp))
    · obtain ⟨x, y, z, hg⟩ := b2.has
      exact ⟨b2.own, x, y, z, by rw [upd_ne (Ne.symm hDg)]; exact hg⟩
    · rcases List.mem_append.mp hx with z | z
      · exact hr x z
      · rw [List.mem_singleton.mp z]; exact r
  · rintro Hi ⟨Bi, acc, ds, li, bi, di, dl, dq, ln, hr⟩
    have lg := (li.give hD di dl).local hD
    have bg : Bag g (upd Bi D (.lst acc)) Hi := ⟨by rw [upd_ne (Ne.symm hDg)]; exact bi.own, bi.has⟩
    exact q _ (.ref D) _ Hi ⟨ds, rfl, ln, hr⟩ lg bg (.lst upd_same (dq.mono (Evl.Ex.new di)))
/-! ## [k for k in d if i in d[k]] -/
theorem kvs_ofParts : ∀ {kvs : List (Key × V)} {ns : List Int}, kvs.map (·.1) = ns.map Sum.inl → kvsOf ns (kvs.map (·.2)) = kvs
  | [], [], _ => rfl
  | [], _ :: _, h => by cases h
  | _ :: _, [], h => by cases h
  | (k, v) :: kvs, n :: ns, h => by
    have h1 : k = Sum.inl n := (List.cons.inj h).1
    subst h1
    show (Sum.inl n, v) :: kvsOf ns (kvs.map (·.2)) = _
    rw [kvs_ofParts (List.cons.inj h).2]
def lockedK (H : Hp) (d : Addr) (kvs : List (Key × V)) : Prop := ∃ od, H d = some (.frz od (.dK kvs))
theorem ev_keysF {ns : List Int} {m : Int → List Int} {v : V} {x : Int} {id_ ix jk : Nat} {vs : List Nat} (hi : σ[id_]? = some (some v)) (hv : Dq K B v (effM ns fun n => .tuple ((m n).map PyData.int))) (e : Ex B H) (hnd : ns.Nodup) (hln : ns.length ≤ 1000)
    (hd : ∀ y, ((wipe σ vs).set jk (some y))[id_]? = some (some v)) (hx : ∀ y, ((wipe σ vs).set jk (some y))[ix]? = some (some (.int x)))
    (hw : ∀ y, wipe ((wipe σ vs).set jk (some y)) vs = wipe σ vs := by intro _; rfl) (hk : ∀ y, ((wipe σ vs).set jk (some y))[jk]? = some (some y) := by intro _; rfl) :
    Ev K (tLockE (tLc (iKeys (tVar id_)) (gName jk) (tTest (tOp (rIn K false) (tVar ix) (tDGet (tVar id_) (tVar jk)))) (tVar jk) vs)) σ B H (.list ((ns.filter fun n => decide (x ∈ m n)).map PyData.int)) := by
  unfold effM at hv
  generalize hE : ns.map (fun n => (PyData.int n, PyData.tuple ((m n).map PyData.int))) = L at hv
  cases hv with
  | dct h hq =>
    rename_i d kvs ds
    obtain ⟨z1, z2⟩ := zip_parts (by have := hq.length; rwa [List.length_map] at this) hE.symm
    subst z2
    refine ev_lock (e d _ h) fun od B1 H1 l1 hd1 => ?_
    have hb1 := l1.b d _ h
    have hq1 := DqAll.off hb1 (hq.mono l1.b)
    have e1 := lock_le (od := od) l1.h hd1
    generalize hBl : dropB B1 d = Bl at hq1 e1 ⊢
    generalize hHl : upd H1 d (.frz od (.dK kvs)) = Hl at e1 ⊢
    have hdl : Hl d = some (.frz od (.dK kvs)) := by rw [← hHl]; exact upd_same
    clear hHl hBl
    intro B2 H2 l2 Q q
    have hd2 := l2.k d _ (by simp) hdl
    have kl : kvs.length = ns.length := by have := congrArg List.length z1; rwa [List.length_map, List.length_map] at this
    refine ⟨.ref d, hi, d, od, rfl, .inl ⟨kvs, hd2, fun D hD => ?_⟩⟩
    have hDb := none_of l2.h hD
    have hsl : 1000 < sizeLine := by rw [sizeLine_eq]; decide
    refine lc_it (walk_keys (d := d) (o := od) (kvs := kvs)) (fun i Hi => ∃ Bi, Le [] B2 H2 Bi Hi ∧ Bi D = none ∧ Hi D = some (.lst (((ns.take i).filter fun n => decide (x ∈ m n)).map V.int))) ⟨B2, Le.made l2.h hD, hDb, upd_same⟩ (fun i Hi _ p => ?_) (fun i y Hi Hi' hlt p yy => ?_) (fun Hi p => ?_)
    · obtain ⟨Bi, le, _⟩ := p
      exact le.k d _ (by simp) hd2
    · obtain ⟨rfl, kk, yv, ekv, rfl⟩ := yy
      obtain ⟨Bi, le, hbi, hh⟩ := p
      have hlt' : i < ns.length := by omega
      have en : ns[i]? = some ns[i] := List.getElem?_eq_getElem hlt'
      have ekk : kk = .inl ns[i] := by
        have := congrArg (fun l => l[i]?) z1
        simp only [List.getElem?_map, ekv, en, Option.map_some] at this
        exact Option.some.inj this
      subst ekk
      obtain ⟨dd, ed, hy⟩ := (hq1.mono (l2.trans le).b).get (i := i) (v := yv) (by rw [List.getElem?_map, ekv]; rfl)
      rw [List.getElem?_map, en] at ed
      cases ed
      have hdi := le.k d _ (by simp) hd2
      have htk : ns.take (i + 1) = ns.take i ++ [ns[i]] := by rw [List.take_add_one, en]; rfl
      have hval : valV kvs (.inl ns[i] : Key) = some yv := by
        have := kvs_val (ns := ns) (ys := kvs.map (·.2)) hnd en (by rw [List.getElem?_map, ekv]; rfl)
        rwa [show kvsOf ns (kvs.map (·.2)) = kvs from kvs_ofParts z1] at this
      refine ⟨hw _, ?_⟩
      -- the test
      have tst : EvT (tTest (tOp (rIn K false) (tVar ix) (tDGet (tVar id_) (tVar jk)))) ((wipe σ vs).set jk (some (.int ns[i]))) Bi Hi' (decide (x ∈ m ns[i])) :=
        et_test (ev_op (ev_var (hx _) (.int x)) (fun B3 H3 l3 Q q => ⟨.ref d, hd _, .int ns[i], hk _, d, yv, rfl, .inl ⟨kvs, .inl ns[i], .inr ⟨od, l3.k d _ (by simp) hdi⟩, rfl, hval.symm⟩, q yv B3 H3 (Le.refl l3.h) (hy.mono l3.b)⟩) rv_inTI)
      refine tst Bi Hi' (Le.refl le.h) _ fun B3 H3 l3 => ?_
      have h3 := l3.k D _ (by simp) hh
      have b3 := l3.own hh hbi
      have hlen : ((ns.take i).filter fun n => decide (x ∈ m n)).length ≤ 1000 := Nat.le_trans (List.length_filter_le _ _) (by rw [List.length_take]; omega)
      by_cases z : x ∈ m ns[i]
      · rw [if_pos (decide_eq_true z)]
        refine ⟨.int ns[i], hk _, _, h3, by rw [List.length_map]; omega, B3, ?_, b3, ?_⟩
        · exact ((le.any.trans l3.any).trans (Le.put (M := [D]) l3.h b3 (by simp))).local hD
        · rw [upd_same, htk, List.filter_append]
          simp [z]
      · rw [if_neg (by simp [z])]
        refine ⟨B3, le.trans l3, b3, ?_⟩
        rw [h3, htk, List.filter_append]
        simp [z]
    · obtain ⟨Bi, le, hbi, hh⟩ := p
      rw [kl, List.take_length] at hh
      have lg := le.give hD hbi hh
      exact q (.ref D) _ Hi lg (.lst upd_same (dqInts _))
end
/-! ## list(d) -/
def rLstD : List V → Hp → VK → Prop := fun xs H Q => ∃ (a : Addr) (kvs : List (Key × V)), xs = [.ref a] ∧ Rd H a (.dK kvs) ∧ ∀ p, H p = none → Q (.ref p) (upd H p (.lst (kvs.map fun kv => kV kv.1)))
theorem rc_lstD {K : PySem.W.Frag} {ns : List Int} {F : Int → PyData} : RC K rLstD [effM ns F] (.list (ns.map PyData.int)) := fun B H vs e hvs Q q => by
  obtain ⟨v, rfl, hv⟩ := dq1 hvs
  unfold effM at hv
  generalize hE : ns.map (fun n => (PyData.int n, F n)) = L at hv
  cases hv with
  | dct h hq =>
    rename_i d kvs ds
    obtain ⟨z1, z2⟩ := zip_parts (by have := hq.length; rwa [List.length_map] at this) hE.symm
    refine ⟨d, kvs, rfl, .inl (e _ _ h), fun p hp => ?_⟩
    have ek : (kvs.map fun kv => kV kv.1) = ns.map V.int := by
      have := congrArg (List.map kV) z1
      rw [List.map_map, List.map_map] at this
      exact this
    rw [ek]
    exact q (.ref p) _ _ (Le.new e hp) (.lst upd_same (dqInts _))
end MA

set_option maxRecDepth 100000
set_option maxHeartbeats 4000000
namespace K04
open PySem PySem.Spec PyProof.Rows L2 MA
def topS (i : Nat) : Stmt := PySem.Challenge.pw_moveafter_k04_blocks.main.body.getD i (.Pass ⟨0, 0, 0, 0⟩)
abbrev s_named_items : Stmt := topS 6
abbrev N_named_items : List PySem.Str := ["script", "command", "item"]
theorem sc_named_items : FnScope N_named_items ["script"] (defScope s_named_items) := by refine ⟨rfl, rfl, rfl, ?_, rfl, ?_, ?_⟩ <;> decide +kernel
abbrev s_played : Stmt := topS 7
abbrev N_played : List PySem.Str := ["items", "script", "row", "word", "item", "other", "place"]
theorem sc_played : FnScope N_played ["items", "script"] (defScope s_played) := by refine ⟨rfl, rfl, rfl, ?_, rfl, ?_, ?_⟩ <;> decide +kernel
abbrev s_fenced : Stmt := topS 8
abbrev N_fenced : List PySem.Str := ["items", "row", "item"]
theorem sc_fenced : FnScope N_fenced ["items"] (defScope s_fenced) := by refine ⟨rfl, rfl, rfl, ?_, rfl, ?_, ?_⟩ <;> decide +kernel
abbrev s_between_fences : Stmt := topS 9
abbrev N_between_fences : List PySem.Str := ["row", "parts", "item", "part"]
theorem sc_between_fences : FnScope N_between_fences ["row"] (defScope s_between_fences) := by refine ⟨rfl, rfl, rfl, ?_, rfl, ?_, ?_⟩ <;> decide +kernel
abbrev s_effect_of : Stmt := topS 10
abbrev N_effect_of : List PySem.Str := ["script", "named", "blocks", "item", "block"]
theorem sc_effect_of : FnScope N_effect_of ["script"] (defScope s_effect_of) := by refine ⟨rfl, rfl, rfl, ?_, rfl, ?_, ?_⟩ <;> decide +kernel
abbrev s_replaced : Stmt := topS 11
abbrev N_replaced : List PySem.Str := ["items", "blocks", "item", "part"]
theorem sc_replaced : FnScope N_replaced ["items", "blocks"] (defScope s_replaced) := by refine ⟨rfl, rfl, rfl, ?_, rfl, ?_, ?_⟩ <;> decide +kernel
abbrev s_sources_of : Stmt := topS 12
abbrev N_sources_of : List PySem.Str := ["effect", "source", "block", "item"]
theorem sc_sources_of : FnScope N_sources_of ["effect"] (defScope s_sources_of) := by refine ⟨rfl, rfl, rfl, ?_, rfl, ?_, ?_⟩ <;> decide +kernel
abbrev s_is_within : Stmt := topS 17
abbrev N_is_within : List PySem.Str := ["value", "least", "most"]
theorem sc_is_within : FnScope N_is_within ["value", "least", "most"] (defScope s_is_within) := by refine ⟨rfl, rfl, rfl, ?_, rfl, ?_, ?_⟩ <;> decide +kernel
abbrev s_is_item : Stmt := topS 18
abbrev N_is_item : List PySem.Str := ["value"]
theorem sc_is_item : FnScope N_is_item ["value"] (defScope s_is_item) := by refine ⟨rfl, rfl, rfl, ?_, rfl, ?_, ?_⟩ <;> decide +kernel
abbrev s_is_command : Stmt := topS 19
abbrev N_is_command : List PySem.Str := ["value", "word", "item", "other"]
theorem sc_is_command : FnScope N_is_command ["value"] (defScope s_is_command) := by refine ⟨rfl, rfl, rfl, ?_, rfl, ?_, ?_⟩ <;> decide +kernel
abbrev s_is_script : Stmt := topS 20
abbrev N_is_script : List PySem.Str := ["value", "command"]
theorem sc_is_script : FnScope N_is_script ["value"] (defScope s_is_script) := by refine ⟨rfl, rfl, rfl, ?_, rfl, ?_, ?_⟩ <;> decide +kernel
abbrev s_require_script : Stmt := topS 21
abbrev N_require_script : List PySem.Str := ["value"]
theorem sc_require_script : FnScope N_require_script ["value"] (defScope s_require_script) := by refine ⟨rfl, rfl, rfl, ?_, rfl, ?_, ?_⟩ <;> decide +kernel
abbrev s_require_item : Stmt := topS 22
abbrev N_require_item : List PySem.Str := ["value"]
theorem sc_require_item : FnScope N_require_item ["value"] (defScope s_require_item) := by refine ⟨rfl, rfl, rfl, ?_, rfl, ?_, ?_⟩ <;> decide +kernel
abbrev s_block_of : Stmt := topS 24
abbrev N_block_of : List PySem.Str := ["script", "item"]
theorem sc_block_of : FnScope N_block_of ["script", "item"] (defScope s_block_of) := by refine ⟨rfl, rfl, rfl, ?_, rfl, ?_, ?_⟩ <;> decide +kernel
abbrev s_source_of : Stmt := topS 25
abbrev N_source_of : List PySem.Str := ["script", "item"]
theorem sc_source_of : FnScope N_source_of ["script", "item"] (defScope s_source_of) := by refine ⟨rfl, rfl, rfl, ?_, rfl, ?_, ?_⟩ <;> decide +kernel
abbrev s_blocks_of : Stmt := topS 26
abbrev N_blocks_of : List PySem.Str := ["script"]
theorem sc_blocks_of : FnScope N_blocks_of ["script"] (defScope s_blocks_of) := by refine ⟨rfl, rfl, rfl, ?_, rfl, ?_, ?_⟩ <;> decide +kernel
abbrev s_same_blocks : Stmt := topS 27
abbrev N_same_blocks : List PySem.Str := ["script", "other_script", "blocks", "other_blocks", "item"]
theorem sc_same_blocks : FnScope N_same_blocks ["script", "other_script"] (defScope s_same_blocks) := by refine ⟨rfl, rfl, rfl, ?_, rfl, ?_, ?_⟩ <;> decide +kernel
abbrev s__law_bag : Stmt := topS 29
abbrev N__law_bag : List PySem.Str := ["cell"]
theorem sc__law_bag : FnScope N__law_bag ["cell"] (defScope s__law_bag) := by refine ⟨rfl, rfl, rfl, ?_, rfl, ?_, ?_⟩ <;> decide +kernel
abbrev s__law_pick : Stmt := topS 30
abbrev N__law_pick : List PySem.Str := ["bag", "many", "told", "first", "second"]
theorem sc__law_pick : FnScope N__law_pick ["bag", "many"] (defScope s__law_pick) := by refine ⟨rfl, rfl, rfl, ?_, rfl, ?_, ?_⟩ <;> decide +kernel
abbrev s__law_items : Stmt := topS 31
abbrev N__law_items : List PySem.Str := ["bag", "many", "left", "k"]
theorem sc__law_items : FnScope N__law_items ["bag", "many"] (defScope s__law_items) := by refine ⟨rfl, rfl, rfl, ?_, rfl, ?_, ?_⟩ <;> decide +kernel
abbrev s__law_script : Stmt := topS 32
abbrev N__law_script : List PySem.Str := ["bag", "items", "most", "many", "way", "some", "found", "k", "word", "at", "other"]
theorem sc__law_script : FnScope N__law_script ["bag", "items", "most"] (defScope s__law_script) := by refine ⟨rfl, rfl, rfl, ?_, rfl, ?_, ?_⟩ <;> decide +kernel
abbrev s__law_case : Stmt := topS 33
abbrev N__law_case : List PySem.Str := ["bag", "most", "length", "items", "left", "line", "k"]
theorem sc__law_case : FnScope N__law_case ["bag", "most", "length"] (defScope s__law_case) := by refine ⟨rfl, rfl, rfl, ?_, rfl, ?_, ?_⟩ <;> decide +kernel
abbrev s__law_moved : Stmt := topS 34
abbrev N__law_moved : List PySem.Str := ["line", "command", "word", "one", "other", "found", "item"]
theorem sc__law_moved : FnScope N__law_moved ["line", "command"] (defScope s__law_moved) := by refine ⟨rfl, rfl, rfl, ?_, rfl, ?_, ?_⟩ <;> decide +kernel
abbrev s__law_done : Stmt := topS 35
abbrev N__law_done : List PySem.Str := ["line", "commands", "command"]
theorem sc__law_done : FnScope N__law_done ["line", "commands"] (defScope s__law_done) := by refine ⟨rfl, rfl, rfl, ?_, rfl, ?_, ?_⟩ <;> decide +kernel
abbrev s__law_named : Stmt := topS 36
abbrev N__law_named : List PySem.Str := ["commands", "found", "word", "one", "other", "item"]
theorem sc__law_named : FnScope N__law_named ["commands"] (defScope s__law_named) := by refine ⟨rfl, rfl, rfl, ?_, rfl, ?_, ?_⟩ <;> decide +kernel
abbrev s__law_blocks : Stmt := topS 37
abbrev N__law_blocks : List PySem.Str := ["commands", "named", "found", "word", "one", "other", "key", "row", "at", "item"]
theorem sc__law_blocks : FnScope N__law_blocks ["commands"] (defScope s__law_blocks) := by refine ⟨rfl, rfl, rfl, ?_, rfl, ?_, ?_⟩ <;> decide +kernel
abbrev s__law_lines_right : Stmt := topS 38
abbrev N__law_lines_right : List PySem.Str := ["bag", "commands", "due", "named", "turn", "left", "line", "parts", "item", "k"]
theorem sc__law_lines_right : FnScope N__law_lines_right ["bag", "commands", "due"] (defScope s__law_lines_right) := by refine ⟨rfl, rfl, rfl, ?_, rfl, ?_, ?_⟩ <;> decide +kernel
abbrev s__law_other : Stmt := topS 39
abbrev N__law_other : List PySem.Str := ["bag", "commands", "way", "at", "k", "row", "word", "one", "other"]
theorem sc__law_other : FnScope N__law_other ["bag", "commands"] (defScope s__law_other) := by refine ⟨rfl, rfl, rfl, ?_, rfl, ?_, ?_⟩ <;> decide +kernel
abbrev s_law : Stmt := topS 40
abbrev N_law : List PySem.Str := ["script", "cell", "bag", "commands", "due", "again", "found", "some", "item", "sources", "turn", "other", "two", "same", "k", "key"]
theorem sc_law : FnScope N_law ["script"] (defScope s_law) := by refine ⟨rfl, rfl, rfl, ?_, rfl, ?_, ?_⟩ <;> decide +kernel
section
variable {P : Program} {w : World} {K : PySem.W.Frag} {mg : PySem.Str → Option Value} {base : Heap}
def withinD : List PyData → Bool
  | [.int a, .int b, .int c] => decide (b ≤ a) && decide (a ≤ c)
  | _ => false
theorem ok_is_within (D : Df K mg "is_within" s_is_within ["value", "least", "most"]) (z_isinstance : mg "isinstance" = none) (z_int : mg "int" = none) (z_bool : mg "bool" = none) :
    Cl P w K mg base CX0 1 "is_within" ["value", "least", "most"] (Pf K (fun ds => ∃ (d : PyData) (b c : Int), ds = [d, .int b, .int c]) fun ds => .bool (withinD ds)) := by
  refine Cl.pu D sc_is_within (fun ds h => by obtain ⟨a, b, c, rfl⟩ := h; rfl) fun f cdv A outer s H vs Q E B ds hr e hq hp k => ?_
  obtain ⟨d, b, c, rfl⟩ := hp
  obtain ⟨v1, v2, v3, rfl, h1, h2, h3⟩ := dq3 hq
  refine ⟨_, (pss_one (ps_ret (pe_and (pe_callB call_isi (by rfl) z_isinstance (by decide +kernel) (pa_cons (pv 0) (pa_cons (pe_bltn (v := .ty "int") (by rfl) z_int (by decide +kernel) rfl) pa_nil))) (pe_and (pe_not (pe_callB call_isi (by rfl) z_isinstance (by decide +kernel) (pa_cons (pv 0) (pa_cons (pe_bltn (v := .ty "bool") (by rfl) z_bool (by decide +kernel) rfl) pa_nil)))) (pe_one (pe_chain op_le op_le (pv 1) (pv 0) (pv 2))))))), ?_⟩
  refine s_ret (K := K) (d := .bool (withinD [d, .int b, .int c])) ?_ e fun v B' H' l hv => k _ rfl v B' H' l hv
  have x0 : Ev K (tVar 0) (L2.start N_is_within [v1, v2, v3]) B H d := ev_var rfl h1
  have e1 : withinD [d, .int b, .int c] = (isN "int" d && (!isN "bool" d && (decide (b ≤ itemI d) && decide (itemI d ≤ c)))) := by
    cases d <;> first | rfl | (simp [withinD, isN, isNS, tyN, itemI])
  rw [e1]
  refine ev_andV (ev_isi x0 (by decide)) fun h1' => ev_andV (ev_notV (ev_isi x0 (by decide))) fun h2' => ?_
  have hi : ∃ i, d = .int i := by
    cases d with
    | int i => exact ⟨i, rfl⟩
    | bool b => simp [isN, isNS, tyN] at h2'
    | _ => simp [isN, isNS, tyN] at h1'
  obtain ⟨i, rfl⟩ := hi
  exact ev_chain (ev_var rfl h2) x0 (fun _ => ev_var rfl h3) (rv_cmp (g := fun a b => decide (a ≤ b))) fun _ => rv_cmp (g := fun a b => decide (a ≤ b))
theorem ok_is_item (D : Df K mg "is_item" s_is_item ["value"]) (C_is_within : Cl P w K mg base CX0 1 "is_within" ["value", "least", "most"] (Pf K (fun ds => ∃ (d : PyData) (b c : Int), ds = [d, .int b, .int c]) fun ds => .bool (withinD ds))) {t60 : Tok} (g_MOST_ITEMS : mg "MOST_ITEMS" = some (.int 60 t60)) :
    Cl P w K mg base CX0 2 "is_item" ["value"] (Pf K (fun ds => ds.length = 1) fun ds => .bool (isItemD (ds.getD 0 .none))) := by
  refine Cl.pu D sc_is_item (fun ds h => h) fun f cdv A outer s H vs Q E B ds hr e hq hp k => ?_
  obtain ⟨d, rfl⟩ : ∃ d, ds = [d] := by
    cases ds with
    | nil => cases hp
    | cons d r => cases r with
      | nil => exact ⟨d, rfl⟩
      | cons _ _ => cases hp
  obtain ⟨v, rfl, hv⟩ := dq1 hq
  refine ⟨_, (pss_one (ps_ret (pe_callC C_is_within (hr.mono (by decide)) (by rfl) pass0 (pa_cons (pv 0) (pa_cons pe_int (pa_cons (pe_op op_sub (pe_glob (v := .int (60)) (by rfl) g_MOST_ITEMS ⟨_, rfl⟩) pe_int) pa_nil)))))), ?_⟩
  have x0 : Ev K (tVar 0) (start N_is_item [v]) B H d := ev_var rfl hv
  refine s_ret (K := K) (d := .bool (isItemD d)) ?_ e fun v B' H' l hv => k _ rfl v B' H' l hv
  have e1 : isItemD d = withinD [d, .int 0, .int (60 - 1)] := by
    cases d with
    | int i =>
      simp only [isItemD, withinD]
      congr 1
      exact decide_eq_decide.mpr (by omega)
    | _ => rfl
  rw [e1]
  exact ev_call (f := fun ds => .bool (withinD ds)) (ea_cons x0 (ea_cons ev_i (ea_cons (ev_op ev_i ev_i rv_int0) ea_nil))) ⟨d, 0, _, rfl⟩
end
end K04

set_option maxRecDepth 100000
set_option maxHeartbeats 4000000
namespace K04
open PySem PySem.Spec PyProof.Rows L2 MA
section
variable {P : Program} {w : World} {K : PySem.W.Frag} {mg : PySem.Str → Option Value} {base : Heap}
theorem ok_is_item1 {z : Sp} (C : Cl P w K mg base CX0 2 "is_item" ["value"] (Pf K (fun ds => ds.length = 1) fun ds => .bool (isItemD (ds.getD 0 .none)))) : Cl P w K mg base CX0 2 "is_item" ["value"] (Pf1 K (fun _ => True) fun d => .bool (isItemD d)) :=
  C.imp fun vs H Q E h => by
    obtain ⟨B, ds, e, h1, ⟨d, rfl, _⟩, q⟩ := h
    exact ⟨B, [d], e, h1, rfl, q⟩
end
end K04

set_option maxRecDepth 100000
set_option maxHeartbeats 4000000
namespace K04
open PySem PySem.Spec PyProof.Rows L2 MA
section
variable {P : Program} {w : World} {K : PySem.W.Frag} {mg : PySem.Str → Option Value} {base : Heap}
theorem three_of {ds : List PyData} (h : ds.length = 3) : ∃ a b c, ds = [a, b, c] := by
  match ds, h with
  | [a, b, c], _ => exact ⟨a, b, c, rfl⟩
theorem ok_is_command (D : Df K mg "is_command" s_is_command ["value"]) (C_is_item : Cl P w K mg base CX0 2 "is_item" ["value"] (Pf1 K (fun _ => True) fun d => .bool (isItemD d)))
    (z_isinstance : mg "isinstance" = none) (z_tuple : mg "tuple" = none) (z_len : mg "len" = none) (z_str : mg "str" = none) {a_WORDS : Addr} (g_WORDS : mg "WORDS" = some (.ref a_WORDS)) (hW : ∀ H, SqT K H a_WORDS [.str "behind", .str "before"]) :
    Cl P w K mg base CX0 3 "is_command" ["value"] (Pf1 K (fun _ => True) fun d => .bool (isCommandD d)) := by
  refine Cl.pu1 D sc_is_command fun f cdv A outer s H v Q E B d hr e hv hp k => ?_
  have hu := hr.units0
  refine ⟨_, (pss_cons (ps_if ((pw_or (pt_not (pt_val (pe_callB call_isi (by rfl) z_isinstance (by decide +kernel) (pa_cons (pv 0) (pa_cons (pe_bltn (v := .ty "tuple") (by rfl) z_tuple (by decide +kernel) rfl) pa_nil))))) (pw_or1 (pt_cmpR (op_neA hu) (pe_callB call_len_seq (by rfl) z_len PySem.boot_len (pa_cons (pv 0) pa_nil)) pe_int (nomark _))))).pt (pss_one (ps_ret pe_bl)) pss_nil) (pss_cons (ps_asg (pv 0) (pg_tup rfl (pgs_cons (pg_name (i := 1) sc_is_command.nd rfl (.inl rfl)) (pgs_cons (pg_name (i := 2) sc_is_command.nd rfl (.inl rfl)) (pgs_cons (pg_name (i := 3) sc_is_command.nd rfl (.inl rfl)) pgs_nil))))) (pss_cons (ps_if ((pw_or (pt_not (pt_val (pe_callB call_isi (by rfl) z_isinstance (by decide +kernel) (pa_cons (pv 1) (pa_cons (pe_bltn (v := .ty "str") (by rfl) z_str (by decide +kernel) rfl) pa_nil))))) (pw_or1 (pt_cmpR op_notIn_seq (pv 1) (pe_glob (v := .ref a_WORDS) (by rfl) g_WORDS rfl) (by rfl))))).pt (pss_one (ps_ret pe_bl)) pss_nil) (pss_one (ps_ret (pe_and (pe_callC C_is_item (hr.mono (by decide)) (by rfl) pass0 (pa_cons (pv 2) pa_nil)) (pe_and (pe_callC C_is_item (hr.mono (by decide)) (by rfl) pass0 (pa_cons (pv 3) pa_nil)) (pe_one (pe_cmpR (op_neA hu) (pv 2) (pv 3) (nomark _)))))))))), ?_⟩
  have x0 : Ev K (tVar 0) (start N_is_command [v]) B H d := ev_var rfl hv
  refine q_when (k := !isN "tuple" d || !decide ((tlen d : Int) = 3)) ?_ e ?_ ?_
  · refine et_or (et_not (et_B (ev_isi x0 (by decide)))) fun h1 => ?_
    obtain ⟨ds, rfl⟩ := isT (by simpa using h1)
    exact et_test (ev_op (ev_cb (ea_cons x0 ea_nil) rc_lenT) ev_i rv_neI)
  · intro h1 B1 H1 l
    refine s_ret (K := K) (d := .bool false) ev_b l.h fun v B' H' l2 hv => k v B' H' (l.trans l2) ?_
    have : isCommandD d = false := by
      cases z : isCommandD d with
      | false => rfl
      | true =>
        exfalso
        unfold isCommandD at z
        split at z
        · simp [isN, isNS, tyN, tlen] at h1
        · cases z
    show Dq K B' v (.bool (isCommandD d))
    rw [this]
    exact hv
  intro h1 B1 H1 l
  simp only [Bool.or_eq_false_iff, Bool.not_eq_false', decide_eq_true_eq] at h1
  obtain ⟨ds, rfl⟩ := isT h1.1
  obtain ⟨wd, a, b, rfl⟩ := three_of (show ds.length = 3 by have := h1.2; simp only [tlen] at this; omega)
  refine q_asg3 (x0.up l) l.h fun x y z B2 H2 l2 hx hy hz => ?_
  refine q_when (k := !isN "str" wd || !isWord wd) ?_ l2.h ?_ ?_
  · refine et_or (et_not (et_B (ev_isi (ev_var rfl hx) (by decide)))) fun h2 => ?_
    obtain ⟨str, rfl⟩ := isS (by simpa using h2)
    have c := rv_notInTS (K := K) (i := str) (ns := ["behind", "before"])
    have e1 : isWord (.str str) = decide (str ∈ (["behind", "before"] : List PySem.Str)) := by
      simp only [isWord, List.mem_cons, List.mem_nil_iff, or_false]
      by_cases p : str = "behind"
      · simp [p]
      · by_cases q : str = "before" <;> simp [p, q]
    rw [e1]
    refine et_test (ev_op (ev_var rfl hx) (ev_c (.tup (hW B2) (dqStrs ["behind", "before"]))) c)
  · intro h2 B3 H3 l3
    refine s_ret (K := K) (d := .bool false) ev_b l3.h fun v B' H' l4 hv => k v B' H' (((l.trans l2).trans l3).trans l4) ?_
    have : isCommandD (.tuple [wd, a, b]) = false := by
      have : isWord wd = false := by
        cases wd with
        | str x => simpa [isN, isNS, tyN] using h2
        | _ => rfl
      simp only [isCommandD, this, Bool.false_and]
    show Dq K B' v (.bool (isCommandD (.tuple [wd, a, b])))
    rw [this]
    exact hv
  intro h2 B3 H3 l3
  have hw : isWord wd = true := by
    simp only [Bool.or_eq_false_iff, Bool.not_eq_false'] at h2
    exact h2.2
  refine s_ret (K := K) (d := .bool (isCommandD (.tuple [wd, a, b]))) ?_ l3.h (fun v B' H' l4 hv => ?_)
  case refine_2 => exact k v B' H' (((l.trans l2).trans l3).trans l4) hv
  have e1 : isCommandD (.tuple [wd, a, b]) = (isItemD a && (isItemD b && !decide (itemI a = itemI b))) := by simp only [isCommandD, hw, Bool.true_and]
  rw [e1]
  refine ev_andV (ev_call1 (Ev.up l3 (ev_var rfl hy)) trivial) fun h4 => ev_andV (ev_call1 (Ev.up l3 (ev_var rfl hz)) trivial) fun h5 => ?_
  obtain ⟨i, rfl, _⟩ := item_int h4
  obtain ⟨j, rfl, _⟩ := item_int h5
  exact ev_op (Ev.up l3 (ev_var rfl hy)) (Ev.up l3 (ev_var rfl hz)) rv_neI
theorem ok_is_script (D : Df K mg "is_script" s_is_script ["value"]) (C_is_command : Cl P w K mg base CX0 3 "is_command" ["value"] (Pf1 K (fun _ => True) fun d => .bool (isCommandD d)))
    (z_isinstance : mg "isinstance" = none) (z_tuple : mg "tuple" = none) (z_len : mg "len" = none) (z_all : mg "all" = none) {t200 : Tok} (g_MOST_COMMANDS : mg "MOST_COMMANDS" = some (.int 200 t200)) :
    Cl P w K mg base CX0 4 "is_script" ["value"] (Pf1 K (fun _ => True) fun d => .bool (isScriptD d)) := by
  refine Cl.pu1 D sc_is_script fun f cdv A outer s H v Q E B d hr e hv hp k => ?_
  have hu := hr.units0
  refine ⟨_, (pss_cons (ps_if ((pw_or (pt_not (pt_val (pe_callB call_isi (by rfl) z_isinstance (by decide +kernel) (pa_cons (pv 0) (pa_cons (pe_bltn (v := .ty "tuple") (by rfl) z_tuple (by decide +kernel) rfl) pa_nil))))) (pw_or1 (pt_not (pt_chain op_le op_le pe_int (pe_callB call_len_seq (by rfl) z_len PySem.boot_len (pa_cons (pv 0) pa_nil)) (pe_glob (v := .int (200)) (by rfl) g_MOST_COMMANDS ⟨_, rfl⟩)))))).pt (pss_one (ps_ret pe_bl)) pss_nil) (pss_one (ps_ret (pe_callB (cr_all rfl) (by rfl) z_all (by decide +kernel) (pa_cons (pe_lc (own := [("command", 1)]) (tt := tYes) (te := (tCall _ [] E0 (tCons (tVar 1) tNil))) rfl sc_is_script.nd (pi_tup (pv 0)) (blkOk_by (N := N_is_script) (sc := defScope s_is_script) (by decide +kernel)) (fun _ _ _ _ _ => (pg_name (i := 1) sc_is_script.nd rfl (.inl rfl))) (fun _ _ _ _ _ => pts_nil) (fun _ _ _ _ _ => (pe_callC C_is_command (hr.mono (by decide)) (by rfl) pass0 (pa_cons (pv 1) pa_nil)))) pa_nil))))), ?_⟩
  have x0 : Ev K (tVar 0) (start N_is_script [v]) B H d := ev_var rfl hv
  refine q_when (k := !isN "tuple" d || !(decide ((1 : Int) ≤ (tlen d : Int)) && decide ((tlen d : Int) ≤ 200))) ?_ e ?_ ?_
  · refine et_or (et_not (et_B (ev_isi x0 (by decide)))) fun h1 => et_not ?_
    obtain ⟨ds, rfl⟩ := isT (by simpa using h1)
    exact et_chain ev_i (ev_cb (ea_cons x0 ea_nil) rc_lenT) (fun _ => ev_i) (rv_cmp (g := fun a b => decide (a ≤ b))) fun _ => rv_cmp (g := fun a b => decide (a ≤ b))
  · intro h1 B1 H1 l
    refine s_ret (K := K) (d := .bool false) ev_b l.h fun v B' H' l2 hv => k v B' H' (l.trans l2) ?_
    have : isScriptD d = false := by
      cases z : isScriptD d with
      | false => rfl
      | true =>
        exfalso
        cases d with
        | tuple ds =>
          simp only [isScriptD, Bool.and_eq_true, decide_eq_true_eq] at z
          have a1 : decide ((1 : Int) ≤ (tlen (.tuple ds) : Int)) = true := decide_eq_true (by show (1 : Int) ≤ (ds.length : Int); omega)
          have a2 : decide ((tlen (.tuple ds) : Int) ≤ 200) = true := decide_eq_true (by show (ds.length : Int) ≤ 200; omega)
          rw [a1, a2] at h1
          simp [isN, isNS, tyN] at h1
        | _ => simp [isScriptD] at z
    show Dq K B' v (.bool (isScriptD d))
    rw [this]
    exact hv
  · intro h1 B1 H1 l
    simp only [Bool.or_eq_false_iff, Bool.not_eq_false', Bool.and_eq_true, decide_eq_true_eq] at h1
    obtain ⟨ds, rfl⟩ := isT h1.1
    have h2 : (1 : Int) ≤ (ds.length : Int) := h1.2.1
    have h3 : (ds.length : Int) ≤ 200 := h1.2.2
    have y0 := x0.up l
    refine s_ret (K := K) (d := .bool (isScriptD (.tuple ds))) ?_ l.h (fun v B' H' l2 hv => ?_)
    case refine_2 => exact k v B' H' (l.trans l2) hv
    have e1 : isScriptD (.tuple ds) = ds.all isCommandD := by
      have a1 : decide (1 ≤ ds.length) = true := decide_eq_true (by omega)
      have a2 : decide (ds.length ≤ 200) = true := decide_eq_true (by omega)
      simp only [isScriptD, a1, a2, Bool.true_and]
    rw [e1]
    have c := ev_compT (te := tCall (Pf1 K (fun _ => True) fun d => .bool (isCommandD d)) [] E0 (tCons (tVar 1) tNil)) (tt := tYes) (j := 1) (vs := [1]) (fun _ => true) (fun d => .bool (isCommandD d)) y0 (by omega)
      (fun d v B1 H1 l hd hv => et_yes) (fun d v B1 H1 l hd hv _ => ev_call1 (ev_var rfl hv) trivial)
    rw [filter_true] at c
    exact ev_cb (ea_cons c ea_nil) (rc_allD isCommandD)
theorem ok_require_script (D : Df K mg "require_script" s_require_script ["value"]) (C_is_script : Cl P w K mg base CX0 4 "is_script" ["value"] (Pf1 K (fun _ => True) fun d => .bool (isScriptD d))) :
    Cl P w K mg base CX0 5 "require_script" ["value"] (Pf1 K (fun d => isScriptD d = true) fun _ => .none) := by
  refine Cl.pu1 D sc_require_script fun f cdv A outer s H v Q E B d hr e hv hp k => ?_
  have hu := hr.units0
  refine ⟨_, (pss_one (ps_if (pt_not (pt_val (pe_callC C_is_script (hr.mono (by decide)) (by rfl) pass0 (pa_cons (pv 0) pa_nil)))) (pss_one (ps_never)) pss_nil)), ?_⟩
  refine s_when (k := !isScriptD d) (et_not (et_B (ev_call1 (ev_var rfl hv) trivial))) e (fun h => ?_) fun h B1 H1 l => k .non B1 H1 l .non
  rw [hp] at h
  cases h
/-- pure, one argument, the answer a new object -/
abbrev Pn1 (K : PySem.W.Frag) (Pre : PyData → Prop) (g : PyData → PyData) : Sp := fun vs H Q _ => ∃ B v d, Ex B H ∧ vs = [v] ∧ Dq K B v d ∧ Pre d ∧ ∀ v' B' H', Le [] B H B' H' → (∃ a, v' = .ref a ∧ H a = none) → Dq K B' v' (g d) → Q v' H'
theorem pn_len {K : PySem.W.Frag} {Pre : PyData → Prop} {g : PyData → PyData} {a : PySem.Str} (vs : List V) (H : Hp) (Q : VK) (E : XK) (h : Pn1 K Pre g vs H Q E) : vs.length = [a].length := by
  obtain ⟨_, _, _, _, rfl, _⟩ := h
  rfl
theorem evN_call1 {K : PySem.W.Frag} {σ : L2.St} {B H : Hp} {te : TE} {Pre : PyData → Prop} {g : PyData → PyData} {E : XK} {d : PyData} (h : Ev K te σ B H d) (hp : Pre d) : EvN K (tCall (Pn1 K Pre g) [] E (tCons te tNil)) σ B H (g d) := fun B1 H1 l Q q =>
  h B1 H1 l _ fun v B2 H2 l2 hv => ⟨B2, v, d, l2.h, rfl, hv, hp, fun v' B' H' l3 hn hv' => by
    obtain ⟨a, ea, ha⟩ := hn
    exact q v' B' H' (l2.trans l3) ⟨a, ea, l2.back ha⟩ hv'⟩
/-- the two items of a command -/
def itemsD : PyData → List Int
  | .tuple [_, a, b] => [itemI a, itemI b]
  | _ => []
theorem command_of {d : PyData} (h : isCommandD d = true) : ∃ (x : PySem.Str) (i j : Int), d = .tuple [.str x, .int i, .int j] ∧ (x = "behind" ∨ x = "before") ∧ 0 ≤ i ∧ i < 60 ∧ 0 ≤ j ∧ j < 60 ∧ i ≠ j := by
  unfold isCommandD at h
  split at h
  · rename_i wd ea eb
    simp only [Bool.and_eq_true] at h
    obtain ⟨h1, h2, h3, h4⟩ := h
    obtain ⟨i, rfl, i1, i2⟩ := item_int h2
    obtain ⟨j, rfl, j1, j2⟩ := item_int h3
    cases wd with
    | str x =>
      simp only [isWord, Bool.or_eq_true, decide_eq_true_eq] at h1
      exact ⟨x, i, j, rfl, h1, i1, i2, j1, j2, by intro e; subst e; simp [itemI] at h4⟩
    | _ => simp [isWord] at h1
  · cases h
/-- the named items, ascending -/
def namedI (ds : List PyData) : List Int := below fun k => ds.any fun d => decide (k ∈ itemsD d)
def tupD : PyData → List PyData
  | .tuple ds => ds
  | _ => []
theorem script_of {d : PyData} (h : isScriptD d = true) : ∃ ds, d = .tuple ds ∧ 1 ≤ ds.length ∧ ds.length ≤ 200 ∧ ∀ c ∈ ds, isCommandD c = true := by
  cases d with
  | tuple ds =>
    simp only [isScriptD, Bool.and_eq_true, decide_eq_true_eq] at h
    exact ⟨ds, rfl, h.1.1, h.1.2, fun c hc => List.all_eq_true.mp h.2 c hc⟩
  | _ => simp [isScriptD] at h
theorem cut_from1 {a b c : PyData} : cutG [a, b, c] (some 1) none = [b, c] := by rfl
theorem ok_named_items (D : Df K mg "named_items" s_named_items ["script"]) (z_sorted : mg "sorted" = none) :
    Cl P w K mg base CX0 1 "named_items" ["script"] (Pn1 K (fun d => isScriptD d = true) fun d => .list ((namedI (tupD d)).map PyData.int)) :=
  Cl.of D sc_named_items pn_len fun f cdv A outer s H vs Q E hr h => by
  obtain ⟨B, v, d, e, rfl, hv, hp, k⟩ := h
  have hu := hr.units0
  refine ⟨_, (pss_one (ps_ret (pe_callB (cr_sortedSet rfl) (by rfl) z_sorted (by decide +kernel) (pa_cons (pe_sc2 (own := [("command", 1), ("item", 2)]) (vs1 := [2]) (wi1 := (iTup K (tSl (rSlAny K) (tVar 1) (tPart (tC (.int 1))) tNoPart))) (te := (tVar 2)) rfl sc_named_items.nd (pi_tup (pv 0)) (blkOk_by (N := N_named_items) (sc := defScope s_named_items) (by decide +kernel)) (by decide) (fun _ _ _ _ _ => (pg_name (i := 1) sc_named_items.nd rfl (.inl rfl))) (fun _ _ _ _ _ => (pi_tup (pe_slice sl_any (pv 1) (po_some pe_int) po_none))) (fun _ _ _ _ _ => (pg_name (i := 2) sc_named_items.nd rfl (.inl rfl))) (fun _ _ _ _ _ => (pv 2))) pa_nil)))), ?_⟩
  obtain ⟨ds, rfl, h1, h2, h3⟩ := script_of hp
  refine evN_sortedSet itemsD (ev_var rfl hv) (fun c hc i hi => ?_) (fun c v B1 H1 l hc hv => ?_) (fun _ => rfl) (fun _ _ => rfl) (fun _ _ => rfl) B H (Le.refl e) _ fun v B' H' l2 hn hv => k v B' H' l2 hn hv
  · obtain ⟨x, i1, j1, rfl, _, a1, a2, b1, b2, _⟩ := command_of (h3 c hc)
    simp only [itemsD, itemI, List.mem_cons, List.mem_nil_iff, or_false] at hi
    rcases hi with rfl | rfl <;> omega
  · obtain ⟨x, i1, j1, rfl, _⟩ := command_of (h3 c hc)
    exact ev_sl (ev_var rfl hv) (eo_some (K := K) ev_i) eo_none rs_T
end
end K04

set_option maxRecDepth 100000
set_option maxHeartbeats 4000000
namespace K04
open PySem PySem.Spec PyProof.Rows L2 MA
section
variable {P : Program} {w : World} {K : PySem.W.Frag} {mg : PySem.Str → Option Value} {base : Heap}
theorem line_eq {ds : List PyData} (h0 : ds ≠ []) (h1 : ds.all isItemD = true) : isLineD (.tuple ds) = (picked (fun i => decide (((ds.map itemI).getD i 0) ∈ (ds.map itemI).take i)) (fun i => .int i) ds.length).isEmpty := by
  have hn := nodup_iff (ds.map itemI)
  have a0 : 1 ≤ ds.length := by
    cases ds with
    | nil => exact absurd rfl h0
    | cons _ _ => simp
  have key : (picked (fun i => decide (((ds.map itemI).getD i 0) ∈ (ds.map itemI).take i)) (fun i => .int i) ds.length).isEmpty = true ↔ (ds.map itemI).Nodup := by
    rw [picked_nil, ← hn]
    constructor
    · intro h i k hi
      have hlt : i < ds.length := by have := (List.getElem?_eq_some_iff.mp hi).1; rwa [List.length_map] at this
      have := of_decide_eq_false (h i hlt)
      rwa [show (ds.map itemI).getD i 0 = k by simp [List.getD, hi]] at this
    · intro h i hi
      refine decide_eq_false (h i _ ?_)
      have : (ds.map itemI)[i]? = some ((ds.map itemI)[i]'(by simpa using hi)) := List.getElem?_eq_getElem _
      rw [this]
      simp [List.getD, this]
  have h60 : (ds.map itemI).Nodup → ds.length ≤ 60 := fun z => by
    have h1 := nodup_le (ds.map itemI) (below fun _ => true) z fun k hk => by
      obtain ⟨d, hd, rfl⟩ := List.mem_map.mp hk
      obtain ⟨i, rfl, i1, i2⟩ := item_int (List.all_eq_true.mp h1 d hd)
      exact mem_below.mpr ⟨i1, i2, rfl⟩
    have h2 := below_len fun _ => true
    rw [List.length_map] at h1
    omega
  by_cases z : (ds.map itemI).Nodup
  · rw [key.mpr z]
    simp only [isLineD, h1, decide_eq_true z, decide_eq_true a0, decide_eq_true (h60 z), Bool.and_self]
  · cases q : (picked (fun i => decide (((ds.map itemI).getD i 0) ∈ (ds.map itemI).take i)) (fun i => PyData.int i) ds.length).isEmpty with
    | true => exact absurd (key.mp q) z
    | false => simp only [isLineD, decide_eq_false z, Bool.and_false]
end
end K04

set_option maxRecDepth 100000
set_option maxHeartbeats 4000000
namespace K04
open PySem PySem.Spec PyProof.Rows L2 MA
section
variable {P : Program} {w : World} {K : PySem.W.Frag} {mg : PySem.Str → Option Value} {base : Heap}
theorem items_in {c : PyData} (h : isCommandD c = true) {k : Int} (hk : k ∈ itemsD c) : 0 ≤ k ∧ k < 60 := by
  obtain ⟨x, i, j, rfl, _, a1, a2, b1, b2, _⟩ := command_of h
  simp only [itemsD, itemI, List.mem_cons, List.mem_nil_iff, or_false] at hk
  rcases hk with rfl | rfl <;> omega
theorem ok_law_named (D : Df K mg "_law_named" s__law_named ["commands"]) (z_sorted : mg "sorted" = none) :
    Cl P w K mg base CX0 1 "_law_named" ["commands"] (Pf1 K (fun d => isScriptD d = true) fun d => .list ((namedI (tupD d)).map PyData.int)) := by
  refine Cl.pu1 D sc__law_named fun f cdv A outer s H v Q E B d hr e hv hp k => ?_
  have hu := hr.units0
  refine ⟨_, (pss_cons (ps_set (i := 1) sc__law_named.nd rfl (.inr rfl) (pe_lst pa_nil)) (pss_cons (ps_for PassesOwn.never rfl (pi_tup (pv 0)) (pg_tup rfl (pgs_cons (pg_name (i := 2) sc__law_named.nd rfl (.inl rfl)) (pgs_cons (pg_name (i := 3) sc__law_named.nd rfl (.inl rfl)) (pgs_cons (pg_name (i := 4) sc__law_named.nd rfl (.inl rfl)) pgs_nil)))) (pss_one (ps_set (i := 1) sc__law_named.nd rfl (.inr rfl) (pe_op op_addA (pv 1) (pe_lc (own := [("item", 5)]) (tt := (tTest (tOp (rIn K true) (tVar 5) (tVar 1)))) (te := (tVar 5)) rfl sc__law_named.nd (pi_tup (pe_tup (pa_cons (pv 3) (pa_cons (pv 4) pa_nil)))) (blkOk_by (N := N__law_named) (sc := defScope s__law_named) (by decide +kernel)) (fun _ _ _ _ _ => (pg_name (i := 5) sc__law_named.nd rfl (.inl rfl))) (fun _ _ _ _ _ => (pts_one (pt_cmpR op_notIn_seq (pv 5) (pv 1) (by rfl)))) (fun _ _ _ _ _ => (pv 5))))))) (pss_one (ps_ret (pe_callB cr_sortedI (by rfl) z_sorted (by decide +kernel) (pa_cons (pv 1) pa_nil)))))), ?_⟩
  obtain ⟨ds, rfl, h1, h2, h3⟩ := script_of hp
  refine q_set (K := K) (d := .list []) (ev_lst ea_nil (Nat.zero_le _)) e fun u B1 H1 l hu1 => ?_
  refine q_forT (K := K) (xs := ds) (Ev.up l (ev_var rfl hv)) l.h (fun i σ' B' => ∃ f ns o2 o3 o4 o5, σ' = [some v, some f, o2, o3, o4, o5] ∧ Dq K B' f (.list (ns.map PyData.int)) ∧ ns.Nodup ∧ ∀ k, k ∈ ns ↔ ∃ c ∈ ds.take i, k ∈ itemsD c)
    (fun B2 H2 l2 => ⟨u, [], none, none, none, none, rfl, hu1.mono l2.b, .nil, by simp⟩) ?_ ?_
  · rintro i c x σ' B' H' N l' hc hx ⟨f, ns, o2, o3, o4, o5, rfl, hf, hn, hm⟩ k'
    have hcm : c ∈ ds := List.mem_of_getElem? hc
    obtain ⟨wd, a, b, ec, _, a1, a2, b1, b2, hne⟩ := command_of (h3 c hcm)
    subst ec
    have h60 : ns.length ≤ 60 := by
      have z1 := nodup_le ns (below fun _ => true) hn fun k hk => by
        obtain ⟨c, hc, hk⟩ := (hm k).mp hk
        have := items_in (h3 c (List.mem_of_mem_take hc)) hk
        exact mem_below.mpr ⟨this.1, this.2, rfl⟩
      have z2 := below_len fun _ => true
      omega
    refine gt3 l'.h hx fun x y z hx hy hz => ?_
    have cmp := ev_compT (K := K) (σ := ((([some v, some f, o2, o3, o4, o5] : L2.St).set 2 (some x)).set 3 (some y)).set 4 (some z)) (B := B') (H := H') (tl := tTup (tCons (tVar 3) (tCons (tVar 4) tNil))) (te := tVar 5) (tt := tTest (tOp (rIn K true) (tVar 5) (tVar 1))) (j := 5) (vs := [5]) (xs := [a, b].map PyData.int) (fun d => !decide (itemI d ∈ ns)) (fun d => d)
      (ev_tup (ea_cons (ev_var rfl hy) (ea_cons (ev_var rfl hz) ea_nil)) (by show 2 ≤ sizeLine; decide)) (by show 2 ≤ 100000; decide)
      (fun d v B1 H1 l hd hv => by
        obtain ⟨n, _, rfl⟩ := List.mem_map.mp hd
        exact et_test (ev_op (ev_var rfl hv) (ev_var rfl (hf.mono l.b)) rv_notInLI)) (fun d v B1 H1 l hd hv _ => ev_var rfl hv)
    rw [List.map_id', List.filter_map] at cmp
    have hlen : ([a, b].filter ((fun d => !decide (itemI d ∈ ns)) ∘ PyData.int)).length ≤ 2 := List.length_filter_le _ [a, b]
    have hsl : 100 < sizeLine := by rw [sizeLine_eq]; decide
    refine s_set (K := K) (d := .list ((ns ++ [a, b].filter ((fun d => !decide (itemI d ∈ ns)) ∘ PyData.int)).map PyData.int)) ?_ l'.h fun v2 B2 H2 l2 hv2 => k' _ B2 H2 l2 ⟨v2, _, _, _, _, _, rfl, hv2, ?_, fun k => ?_⟩
    · rw [List.map_append]
      exact ev_op (ev_var rfl hf) cmp (rv_addL (by rw [List.length_map, List.length_map]; omega))
    · rw [List.nodup_append]
      refine ⟨hn, List.Nodup.sublist List.filter_sublist (by simp [hne]), fun p hp q hq e => ?_⟩
      have := (List.mem_filter.mp hq).2
      simp only [Function.comp, itemI, Bool.not_eq_true', decide_eq_false_iff_not] at this
      exact of_decide_eq_false this (e ▸ hp)
    · rw [List.mem_append, List.mem_filter, hm k, List.take_add_one, hc]
      simp only [Function.comp, itemI, Option.toList, List.mem_append, List.mem_singleton]
      constructor
      · rintro (⟨c, hc, hk⟩ | ⟨hk, _⟩)
        · exact ⟨c, .inl hc, hk⟩
        · exact ⟨_, .inr rfl, hk⟩
      · rintro ⟨c, hc | rfl, hk⟩
        · exact .inl ⟨c, hc, hk⟩
        · by_cases z : k ∈ ns
          · exact .inl ((hm k).mp z)
          · exact .inr ⟨hk, by simp [z]⟩
  · rintro σ' B' H' l' ⟨f, ns, o2, o3, o4, o5, rfl, hf, hn, hm⟩
    refine s_ret (K := K) (d := .list ((namedI ds).map PyData.int)) (ev_cb (ea_cons (ev_var rfl hf) ea_nil) (rc_sorted hn (below_asc _) fun k => ?_)) l'.h (fun v B2 H2 l2 hv => k v B2 H2 ((l.trans l').trans l2) hv)
    rw [hm k, List.take_length]
    unfold namedI
    rw [mem_below]
    constructor
    · rintro ⟨c, hc, hk⟩
      have := items_in (h3 c hc) hk
      exact ⟨this.1, this.2, List.any_eq_true.mpr ⟨c, hc, decide_eq_true hk⟩⟩
    · rintro ⟨_, _, h⟩
      obtain ⟨c, hc, hk⟩ := List.any_eq_true.mp h
      exact ⟨c, hc, of_decide_eq_true hk⟩
end
end K04

set_option maxRecDepth 100000
set_option maxHeartbeats 4000000
namespace K04
open PySem PySem.Spec PyProof.Rows L2 MA
section
variable {P : Program} {w : World} {K : PySem.W.Frag} {mg : PySem.Str → Option Value} {base : Heap}
theorem ok_law_bag (D : Df K mg "_law_bag" s__law_bag ["cell"]) (z_max : mg "max" = none) : Cl P w K mg base CX0 1 "_law_bag" ["cell"] BagS :=
  Cl.of D sc__law_bag (fun vs H Q E h => by obtain ⟨c, rfl, _⟩ := h; rfl) fun f cdv A outer s H vs Q E hr h => by
    obtain ⟨c, rfl, q⟩ := h
    refine ⟨_, (pss_one (ps_ret (pe_lst (pa_cons (pe_callB (call_max2 rfl) (by rfl) z_max (by decide +kernel) (pa_cons pe_int (pa_cons (pe_op op_sub (pv 0) (pe_op op_pow pe_int pe_int)) pa_nil))) (pa_cons (pv 0) (pa_cons pe_int pa_nil)))))), ?_⟩
    refine ⟨.int c, rfl, 10, 18, rfl, rfl, ⟨by decide, by decide, by decide⟩, c, _, rfl, rfl, 0, _, rfl, .int c, rfl, by show 3 ≤ sizeLine; decide, fun p hp => ?_⟩
    exact q p _ _ _ hp
theorem ok_law_pick (D : Df K mg "_law_pick" s__law_pick ["bag", "many"]) : Cl P w K mg base CX0 1 "_law_pick" ["bag", "many"] (PickS K) :=
  Cl.of D sc__law_pick (bg_len (n := 1) fun ds h => by obtain ⟨n, rfl, _⟩ := h; rfl) fun f cdv A outer s H vs Q E hr h => by
    obtain ⟨g, us, B, ds, rfl, e, ⟨hB, x, y, z, hg⟩, hq, ⟨n, rfl, n0, n1⟩, q⟩ := h
    obtain ⟨v, rfl, hv⟩ := dq1 hq
    cases hv
    refine ⟨_, (pss_cons (ps_asg (pe_op op_addA (pe_ix ix_seq (pv 0) pe_int (fun _ _ => rfl)) pe_int) (pg_sub (pv 0) pe_int set_list)) (pss_cons (ps_if (pt_cmpR op_gt (pe_ix ix_seq (pv 0) pe_int (fun _ _ => rfl)) pe_int (nomark _)) (pss_cons (ps_set (i := 2) sc__law_pick.nd rfl (.inl rfl) (pe_op op_mod (pe_ix ix_seq (pv 0) pe_int (fun _ _ => rfl)) (pv 1))) (pss_cons (ps_asg (pe_op op_fdiv (pe_ix ix_seq (pv 0) pe_int (fun _ _ => rfl)) (pv 1)) (pg_sub (pv 0) pe_int set_list)) (pss_one (ps_ret (pv 2))))) pss_nil) (pss_cons (ps_set (i := 3) sc__law_pick.nd rfl (.inl rfl) (pe_op op_mod (pe_op op_addA (pe_op op_addA (pe_op op_mulA (pe_op op_mod (pe_ix ix_seq (pv 0) pe_int (fun _ _ => rfl)) pe_int) pe_int) (pe_op op_mulA (pe_ix ix_seq (pv 0) pe_int (fun _ _ => rfl)) pe_int)) pe_int) pe_int)) (pss_cons (ps_set (i := 4) sc__law_pick.nd rfl (.inl rfl) (pe_op op_mod (pe_op op_addA (pe_op op_mulA (pv 3) (pv 3)) (pe_op op_mulA (pe_ix ix_seq (pv 0) pe_int (fun _ _ => rfl)) pe_int)) pe_int)) (pss_one (ps_ret (pe_op op_mod (pe_op op_fdiv (pe_op op_addA (pe_op op_mulA (pv 3) pe_int) (pv 4)) pe_int) (pv 1)))))))), ?_⟩
    refine ⟨.ref g, rfl, ix_own hg (v := .int z) rfl (.inl ⟨z, 1, rfl, rfl, .ref g, rfl, g, _, 2, 2, rfl, rfl, hg, rfl, ?_⟩)⟩
    have l1 : Le [g] B H B (upd H g (.lst [.int x, .int y, .int (z + 1)])) := Le.put e hB (by simp)
    have hg1 : upd H g (.lst [.int x, .int y, .int (z + 1)]) g = some (.lst [.int x, .int y, .int (z + 1)]) := upd_same
    have fin : ∀ r : Int, 0 ≤ r → r < n → ∀ x' y' z' H', Le [g] B H B H' → H' g = some (.lst [.int x', .int y', .int z']) → Q (.int r) H' := fun r r0 r1 x' y' z' H' l hg' =>
      q (.int r) ⟨n, r, rfl, rfl, r0, r1⟩ (.int r) B H' l ⟨hB, x', y', z', hg'⟩ (.int r)
    refine ⟨.ref g, rfl, ix_own hg1 (v := .int x) rfl ⟨x, 0, rfl, rfl, decide (0 < x), rfl, ?_⟩⟩
    refine ite_b (fun hx => ?_) fun hx => ?_
    · refine ⟨.ref g, rfl, ix_own hg1 (v := .int x) rfl ⟨.int n, rfl, x, n, rfl, rfl, n0, ?_⟩⟩
      refine ⟨.ref g, rfl, ix_own hg1 (v := .int x) rfl ⟨.int n, rfl, x, n, rfl, rfl, ⟨n0, n1⟩, .ref g, rfl, g, _, 0, 0, rfl, rfl, hg1, rfl, ?_⟩⟩
      refine ⟨.int (x % n), rfl, ?_⟩
      exact fin (x % n) (Int.emod_nonneg _ (by omega)) (Int.emod_lt_of_pos _ n0) _ _ _ _ (l1.trans (Le.put l1.h hB (by simp))) upd_same
    · have c1 : CMul (y % 2147483629) 48271 := .inr ⟨by decide, by decide⟩
      have c2 : CMul (z + 1) 69621 := .inr ⟨by decide, by decide⟩
      have c3 : CMul (z + 1) 40692 := .inr ⟨by decide, by decide⟩
      have hmod : ∀ a : Int, -(2 ^ 64) < a % 2147483647 ∧ a % 2147483647 < 2 ^ 64 := fun a => by
        have h1 := Int.emod_nonneg a (show (2147483647 : Int) ≠ 0 by decide)
        have h2 := Int.emod_lt_of_pos a (show (0 : Int) < 2147483647 by decide)
        omega
      have p1 : (0 : Int) < 2147483629 := by decide
      have p2 : (0 : Int) < 2147483647 := by decide
      have p3 : (0 : Int) < 2147483587 := by decide
      have p4 : (0 : Int) < 32 := by decide
      have p5 : (32 : Int) < 1073741824 := by decide
      refine ⟨.ref g, rfl, ix_own hg1 (v := .int y) rfl ⟨y, 2147483629, rfl, rfl, p1, .inl ⟨_, 48271, rfl, rfl, c1, ?_⟩⟩⟩
      refine ⟨.ref g, rfl, ix_own hg1 (v := .int (z + 1)) rfl (.inl ⟨z + 1, 69621, rfl, rfl, c2, .inl ⟨_, _, rfl, rfl, .inl ⟨_, 12345, rfl, rfl, _, 2147483647, rfl, rfl, p2, ?_⟩⟩⟩)⟩
      refine ⟨_, rfl, _, rfl, .inl ⟨_, _, rfl, rfl, .inl (hmod _), ?_⟩⟩
      refine ⟨.ref g, rfl, ix_own hg1 (v := .int (z + 1)) rfl (.inl ⟨z + 1, 40692, rfl, rfl, c3, .inl ⟨_, _, rfl, rfl, _, 2147483587, rfl, rfl, p3, ?_⟩⟩)⟩
      refine ⟨_, rfl, .inl ⟨_, 2147483587, rfl, rfl, .inl (hmod _), _, rfl, .inl ⟨_, _, rfl, rfl, _, 32, rfl, rfl, ⟨p4, p5⟩, .int n, rfl, _, n, rfl, rfl, n0, ?_⟩⟩⟩
      exact fin _ (Int.emod_nonneg _ (by omega)) (Int.emod_lt_of_pos _ n0) _ _ _ _ l1 hg1
theorem ok_law_items (D : Df K mg "_law_items" s__law_items ["bag", "many"]) (C__law_pick : Cl P w K mg base CX0 1 "_law_pick" ["bag", "many"] (PickS K)) (z_list : mg "list" = none) (z_range : mg "range" = none) (z_len : mg "len" = none) :
    Cl P w K mg base CX0 2 "_law_items" ["bag", "many"] (ItemsS K) :=
  Cl.of D sc__law_items (bg_len (n := 1) fun ds h => by obtain ⟨n, rfl, _⟩ := h; rfl) fun f cdv A outer s H vs Q E hr h => by
    obtain ⟨g, us, B, ds, rfl, e, hb, hq, ⟨n, rfl, n0, n1⟩, q⟩ := h
    obtain ⟨v, rfl, hv⟩ := dq1 hq
    cases hv
    refine ⟨_, (pss_cons (ps_set (i := 2) sc__law_items.nd rfl (.inr rfl) (pe_listRg rfl (by rfl) z_list (prg_1 (by rfl) z_range pe_int))) (pss_one (ps_ret (pe_lc (own := [("k", 3)]) (tt := tYes) (te := (tBM K "list" rPopAt (tVar 2) (tCons (tCall _ [] E0 (tCons (tVar 0) (tCons (tCB (rLenA K) (tCons (tVar 2) tNil)) tNil))) tNil))) rfl sc__law_items.nd (pi_range1 (by rfl) z_range (pa_cons (pv 1) pa_nil)) (blkOk_by (N := N__law_items) (sc := defScope s__law_items) (by decide +kernel)) (fun _ _ _ _ _ => (pg_name (i := 3) sc__law_items.nd rfl (.inl rfl))) (fun _ _ _ _ _ => pts_nil) (fun _ _ _ _ _ => (pe_bm PySem.F.plainAttrs_list PySem.F.slot_list_pop PySem.F.type_list_pop mt_popAt (pv 2) (pa_cons (pe_callC C__law_pick (hr.mono (by decide)) (by rfl) pass0 (pa_cons (pv 0) (pa_cons (pe_callB call_len_seq (by rfl) z_len PySem.boot_len (pa_cons (pv 2) pa_nil)) pa_nil))) pa_nil))))))), ?_⟩
    refine ⟨60, rfl, .of_le (by decide) (by decide) (by decide) (by decide), fun p hp => ?_⟩
    rw [rgV60]
    have hpb : B p = none := by
      cases z : B p with
      | none => rfl
      | some o => rw [e p o z] at hp; cases hp
    have l1 : Le [g] B H B (upd H p (.lst (ints60.map V.int))) := Le.made e hp
    have hpg := hb.ne hp
    have b1 : Bag g B (upd H p (.lst (ints60.map V.int))) := by
      obtain ⟨x, y, z, hg⟩ := hb.has
      exact ⟨hb.own, x, y, z, by rw [upd_ne (Ne.symm hpg)]; exact hg⟩
    refine b_pops (K := K) (n := n) (xs := ints60) (ea_cons (ev_var rfl (.int n)) ea_nil) l1.h b1 hpb upd_same hpg (fun _ => rfl) (fun _ => rfl) (fun _ => rfl) n0 (by show n ≤ 60; exact n1) (by decide) fun acc rest v B2 H2 pm ln l2 b2 hv => ?_
    obtain ⟨a1, a2⟩ := perm_part pm ints60_nd
    exact q _ ⟨n, acc, rfl, rfl, ln, a1, fun k hk => ints60_in k (a2 k hk)⟩ v B2 H2 (((Le.made e hp).trans l2).local hp) b2 hv
end
end K04

set_option maxRecDepth 100000
set_option maxHeartbeats 8000000
namespace K04
open PySem PySem.Spec PyProof.Rows L2 MA
section
variable {P : Program} {w : World} {K : PySem.W.Frag} {mg : PySem.Str → Option Value} {base : Heap}
theorem ok_law_script (D : Df K mg "_law_script" s__law_script ["bag", "items", "most"]) (C__law_pick : Cl P w K mg base CX0 1 "_law_pick" ["bag", "many"] (PickS K)) (z_tuple : mg "tuple" = none) (z_range : mg "range" = none) (z_len : mg "len" = none) (z_int : mg "int" = none) :
    Cl P w K mg base CX0 2 "_law_script" ["bag", "items", "most"] (ScriptS K) :=
  Cl.of D sc__law_script (bg_len (n := 2) fun ds h => by obtain ⟨xs, m, rfl, _⟩ := h; rfl) fun f cdv A outer s H vs Q E hr h => by
    obtain ⟨g, us, B, ds, rfl, e, hb, hq, ⟨xs, m, rfl, x2, x60, xnd, m1, m2⟩, q⟩ := h
    obtain ⟨v1, v2, rfl, hv1, hv2⟩ := dq2 hq
    have hu := hr.units0
    refine ⟨_, (pss_cons (ps_set (i := 3) sc__law_script.nd rfl (.inl rfl) (pe_op op_addA pe_int (pe_callC C__law_pick (hr.mono (by decide)) (by rfl) pass0 (pa_cons (pv 0) (pa_cons (pv 2) pa_nil))))) (pss_cons (ps_set (i := 4) sc__law_script.nd rfl (.inl rfl) (pe_callC C__law_pick (hr.mono (by decide)) (by rfl) pass0 (pa_cons (pv 0) (pa_cons pe_int pa_nil)))) (pss_cons (ps_set (i := 5) sc__law_script.nd rfl (.inl rfl) (pe_slice sl_any (pv 1) po_none (po_some (pe_op op_addA pe_int (pe_callC C__law_pick (hr.mono (by decide)) (by rfl) pass0 (pa_cons (pv 0) (pa_cons (pe_op op_sub (pe_callB call_len_seq (by rfl) z_len PySem.boot_len (pa_cons (pv 1) pa_nil)) pe_int) pa_nil))))))) (pss_cons (ps_if (pt_cmpR (op_eqA hu) (pv 4) pe_int (nomark _)) (pss_one (ps_set (i := 5) sc__law_script.nd rfl (.inl rfl) (pe_slice sl_any (pv 5) po_none (po_some pe_int)))) pss_nil) (pss_cons (ps_set (i := 6) sc__law_script.nd rfl (.inl rfl) (pe_lst pa_nil)) (pss_cons (ps_for PassesOwn.never rfl (pi_range1 (by rfl) z_range (pa_cons (pv 3) pa_nil)) (pg_name (i := 7) sc__law_script.nd rfl (.inl rfl)) (pss_cons (ps_set (i := 8) sc__law_script.nd rfl (.inl rfl) (pe_ix ix_seq (pe_lst (pa_cons pe_str (pa_cons pe_str pa_nil))) (pe_ix ix_seq (pe_lst (pa_cons (pe_callC C__law_pick (hr.mono (by decide)) (by rfl) pass0 (pa_cons (pv 0) (pa_cons pe_int pa_nil))) (pa_cons pe_int pa_nil))) (pe_callTy call_int1 (by rfl) z_int (by decide +kernel) (pa_cons (pe_cmpR (op_eqA hu) (pv 4) pe_int (nomark _)) pa_nil)) (fun _ _ => rfl)) (fun _ _ => rfl))) (pss_cons (ps_set (i := 9) sc__law_script.nd rfl (.inl rfl) (pe_callC C__law_pick (hr.mono (by decide)) (by rfl) pass0 (pa_cons (pv 0) (pa_cons (pe_callB call_len_seq (by rfl) z_len PySem.boot_len (pa_cons (pv 5) pa_nil)) pa_nil)))) (pss_cons (ps_set (i := 10) sc__law_script.nd rfl (.inl rfl) (pe_op op_mod (pe_op op_addA (pe_op op_addA (pv 9) pe_int) (pe_callC C__law_pick (hr.mono (by decide)) (by rfl) pass0 (pa_cons (pv 0) (pa_cons (pe_op op_sub (pe_callB call_len_seq (by rfl) z_len PySem.boot_len (pa_cons (pv 5) pa_nil)) pe_int) pa_nil)))) (pe_callB call_len_seq (by rfl) z_len PySem.boot_len (pa_cons (pv 5) pa_nil)))) (pss_cons (ps_if (pt_cmpR op_in_seq (pv 4) (pe_tup (pa_cons pe_int (pa_cons pe_int pa_nil))) (by rfl)) (pss_one (ps_par (i := 9) (j := 10) rfl sc__law_script.nd rfl rfl (by decide) rfl rfl (pa_cons (pe_op op_mod (pv 7) (pe_callB call_len_seq (by rfl) z_len PySem.boot_len (pa_cons (pv 5) pa_nil))) (pa_cons (pe_op op_mod (pe_op op_addA (pv 7) pe_int) (pe_callB call_len_seq (by rfl) z_len PySem.boot_len (pa_cons (pv 5) pa_nil))) pa_nil)) rfl)) pss_nil) (pss_one (ps_if ((pw_and (pt_cmpR (op_eqA hu) (pv 4) pe_int (nomark _)) (pw_and (pt_cmpR (op_neA hu) (pv 6) (pe_lst pa_nil) (nomark _)) (pw_and1 (pt_cmpR op_gt (pe_callC C__law_pick (hr.mono (by decide)) (by rfl) pass0 (pa_cons (pv 0) (pa_cons pe_int pa_nil))) pe_int (nomark _)))))).pt (pss_one (ps_expr (pe_bm PySem.F.plainAttrs_list PySem.F.slot_list_append PySem.F.type_list_append mt_append (pv 6) (pa_cons (pe_ix ix_seq (pv 6) (pe_callC C__law_pick (hr.mono (by decide)) (by rfl) pass0 (pa_cons (pv 0) (pa_cons (pe_callB call_len_seq (by rfl) z_len PySem.boot_len (pa_cons (pv 6) pa_nil)) pa_nil))) (fun _ _ => rfl)) pa_nil)))) (pss_one (ps_expr (pe_bm PySem.F.plainAttrs_list PySem.F.slot_list_append PySem.F.type_list_append mt_append (pv 6) (pa_cons (pe_tup (pa_cons (pv 8) (pa_cons (pe_ix ix_seq (pv 5) (pv 9) (fun _ _ => rfl)) (pa_cons (pe_ix ix_seq (pv 5) (pv 10) (fun _ _ => rfl)) pa_nil)))) pa_nil))))))))))) (pss_one (ps_ret (pe_callTy call_tuple_of (by rfl) z_tuple (by decide +kernel) (pa_cons (pv 6) pa_nil)))))))))), ?_⟩
    -- many
    refine b_set (K := K) (g := g) (R := RI fun r => 1 ≤ r ∧ r ≤ m) (ei_op (ei_of (i := 1) fun _ _ _ => ev_i) (eb_pickC (n := m) rfl (fun B1 H1 l => ev_var rfl (hv2.mono l.b)) (by omega) (by omega)) fun i j h1 h2 => ⟨rv_addI, by omega⟩) e hb ?_
    rintro d vm B1 H1 ⟨many, rfl, mn1, mn2⟩ l1 b1 hvm
    -- way
    refine b_set (K := K) (g := g) (R := RI fun r => 0 ≤ r ∧ r < 5) (eb_pickC (n := 5) rfl (fun _ _ _ => ev_i) (by decide) (by decide)) l1.h b1 ?_
    rintro d vw B2 H2 ⟨way, rfl, _, _⟩ l2 b2 hvw
    have l12 := l1.trans l2
    -- some
    refine b_set (K := K) (g := g) (R := fun d => ∃ ss : List Int, d = .list (ss.map PyData.int) ∧ SomeL xs ss) (eb_sl (R1 := (· = .list (xs.map PyData.int))) (P := fun i => 2 ≤ i) (eb_of fun B3 H3 l => ev_var rfl (hv1.mono (l12.trans l).b))
      (ei_op (ei_of (i := 2) fun _ _ _ => ev_i) (eb_pickC (n := (xs.length : Int) - 1) rfl (fun B3 H3 l => ev_op (ev_cb (ea_cons (ev_var rfl (hv1.mono (l12.trans l).b)) ea_nil) (by have c := rc_lenL (K := K) (ds := xs.map PyData.int); rw [List.length_map] at c; exact c)) ev_i rv_int0) (by omega) (by omega)) fun i j h1 h2 => ⟨rv_addI, by omega⟩)
      fun x i hx hi => by
        subst hx
        refine ⟨_, rs_L, xs.take i.toNat, by rw [cut_ints xs (by omega)], ?_⟩
        exact SomeL.take ⟨x2, x60, xnd, fun k hk => hk⟩ hi) l2.h b2 ?_
    rintro d vs0 B3 H3 ⟨ss0, rfl, hss0⟩ l3 b3 hvs0
    have l13 := l12.trans l3
    -- if way == 1
    refine q_whenS (k := decide (way = 1)) (fun σ' B' => ∃ (v5 : V) (ss : List Int), σ' = [some (.ref g), some v1, some v2, some vm, some vw, some v5, none, none, none, none, none] ∧ Dq K B' v5 (.list (ss.map PyData.int)) ∧ SomeL xs ss)
      (et_test (ev_op (ev_var rfl (hvw.mono l3.b)) ev_i rv_eqI)) l3.h ?_ ?_ ?_
    · intro _ B4 H4 l4 N hN
      refine s_set (K := K) (d := .list ((ss0.take 3).map PyData.int)) (by
        have c := ev_sl (K := K) (te := tVar 5) (σ := [some (.ref g), some v1, some v2, some vm, some vw, some vs0, none, none, none, none, none]) (B := B4) (H := H4) (x := .list (ss0.map PyData.int)) (ev_var rfl (hvs0.mono l4.b)) eo_none (eo_some (K := K) (i := 3) ev_i) rs_L
        rw [cut_ints ss0 (by decide)] at c
        exact c) l4.h fun v5 B5 H5 l5 hv5 => hN _ B5 H5 l5 ⟨v5, ss0.take 3, rfl, hv5, hss0.take (i := 3) (by decide)⟩
    · intro _ B4 H4 l4
      exact ⟨vs0, ss0, rfl, hvs0.mono l4.b, hss0⟩
    rintro σ4 B4 H4 l4 ⟨v5, ss, rfl, hv5, hss⟩
    have l14 := l13.trans l4.any
    have b4 := b3.pure l4
    have hvm4 := ((hvm.mono l2.b).mono l3.b).mono l4.b
    have hvw4 := (hvw.mono l3.b).mono l4.b
    have n2 : 2 ≤ (ss.length : Int) := by have := hss.two; omega
    have n60 : (ss.length : Int) ≤ 60 := by have := hss.small; omega
    have lenS : ∀ {σ' : L2.St} {B' H' : Hp}, σ'[5]? = some (some v5) → Dq K B' v5 (.list (ss.map PyData.int)) → Ev K (tCB (rLenA K) (tCons (tVar 5) tNil)) σ' B' H' (.int ss.length) := fun h1 h2 => by
      have c := rc_lenL (K := K) (ds := ss.map PyData.int)
      rw [List.length_map] at c
      exact ev_cb (ea_cons (ev_var h1 h2) ea_nil) c
    cases hvm
    cases hvw
    -- found = []
    refine ⟨Nat.zero_le _, fun p hp => ?_⟩
    have hpB : B4 p = none := by
      cases z : B4 p with
      | none => rfl
      | some o => rw [l4.h p o z] at hp; cases hp
    have hpg := b4.ne hp
    have l5 : Le [p, g] B4 H4 B4 (upd H4 p (.lst [])) := Le.made l4.h hp
    have b5 : Bag g B4 (upd H4 p (.lst [])) := by
      obtain ⟨x, y, z, hg⟩ := b4.has
      exact ⟨b4.own, x, y, z, by rw [upd_ne (Ne.symm hpg)]; exact hg⟩
    refine ⟨.int many, rfl, many, rfl, by omega, by omega, for_range (lo := 0) (n := many.toNat) (fun i σ' H' => ∃ (Bi : Hp) (cs : List PyData) (ws : List V) (o7 o8 o9 o10 : Option V),
      σ' = [some (.ref g), some v1, some v2, some (.int many), some (.int way), some v5, some (.ref p), o7, o8, o9, o10] ∧ Le [p, g] B4 H4 Bi H' ∧ Bag g Bi H' ∧ Bi p = none ∧ H' p = some (.lst ws) ∧ DqAll K Bi ws cs ∧ cs.length = i ∧ ∀ c ∈ cs, GoodC xs c) ?_ ?_ ?_⟩
    · exact ⟨B4, [], [], none, none, none, none, rfl, l5, b5, hpB, upd_same, .nil, rfl, by simp⟩
    · rintro i σ' H' hi ⟨Bi, cs, ws, o7, o8, o9, o10, rfl, li, bi, pi, pl, wq, cl, cg⟩
      have wl := wq.length
      -- word
      refine b_set (K := K) (g := g) (R := fun d => ∃ x : PySem.Str, d = .str x ∧ (x = "behind" ∨ x = "before")) (eb_op (R1 := (· = .list [.str "behind", .str "before"])) (Rb := RI fun r => 0 ≤ r ∧ r < 2) (eb_of fun _ _ _ => ev_lst (ea_cons ev_s (ea_cons ev_s ea_nil)) (by show 2 ≤ sizeLine; decide))
        (eb_op (R1 := fun d => ∃ r : Int, d = .list [.int r, .int 0] ∧ 0 ≤ r ∧ r < 2) (Rb := RI fun r => 0 ≤ r ∧ r < 2) ((eb_lst (eba_cons (eb_pickC (n := 2) rfl (fun _ _ _ => ev_i) (by decide) (by decide)) (eba_cons (ei_of (i := 0) fun _ _ _ => ev_i) eba_nil)) fun ds h => by
            obtain ⟨_, _, rfl, _, _, _, rfl, _, rfl⟩ := h
            show 2 ≤ sizeLine
            decide).imp fun d h => by
              obtain ⟨ds, rfl, _, _, rfl, ⟨r, rfl, h⟩, _, _, rfl, ⟨_, rfl, rfl⟩, rfl⟩ := h
              exact ⟨r, rfl, h⟩)
          ((ei_of (i := if decide (way = 2) then 1 else 0) fun B6 H6 l6 => ev_cb (rr := rInt1) (ea_cons (ev_op (ev_var rfl (.int _)) ev_i rv_eqI) ea_nil) rc_int1).imp fun d h => by
            obtain ⟨_, rfl, rfl⟩ := h
            exact ⟨_, rfl, by split <;> omega⟩) ?_) ?_) li.h bi ?_
      · rintro x y ⟨r, rfl, r0, r1⟩ ⟨k, rfl, k0, k1⟩
        rcases (show k = 0 ∨ k = 1 by omega) with rfl | rfl
        · exact ⟨.int r, rv_ixL rfl, r, rfl, r0, r1⟩
        · exact ⟨.int 0, rv_ixL rfl, 0, rfl, by decide, by decide⟩
      · rintro x y rfl ⟨k, rfl, k0, k1⟩
        rcases (show k = 0 ∨ k = 1 by omega) with rfl | rfl
        · exact ⟨.str "behind", rv_ixL rfl, _, rfl, .inl rfl⟩
        · exact ⟨.str "before", rv_ixL rfl, _, rfl, .inr rfl⟩
      rintro d v8 B6 H6 ⟨wd, rfl, hwd⟩ l6 b6 hv8
      have l46 := li.trans (l6.wk (M' := [p, g]) (by simp))
      have hv5_6 := hv5.mono l46.b
      -- at
      refine b_set (K := K) (g := g) (R := RI fun r => 0 ≤ r ∧ r < ss.length) (eb_pickC (n := ss.length) rfl (fun B7 H7 l => lenS rfl (hv5_6.mono l.b)) (by omega) (by omega)) l6.h b6 ?_
      rintro d v9 B7 H7 ⟨a, rfl, a0, a1⟩ l7 b7 hv9
      have hv5_7 := hv5_6.mono l7.b
      cases hv9
      -- other
      refine b_set (K := K) (g := g) (R := RI fun r => 0 ≤ r ∧ r < ss.length ∧ r ≠ a) (ei_op (f := fun i j => i % j) (P1 := fun r => a + 1 ≤ r ∧ r < a + ss.length) (P2 := (· = (ss.length : Int))) (ei_op (P1 := (· = a + 1)) (ei_of fun B8 H8 l => ev_op (ev_var rfl (.int a)) ev_i rv_addI)
        (eb_pickC (n := (ss.length : Int) - 1) rfl (fun B8 H8 l => ev_op (lenS rfl (hv5_7.mono l.b)) ev_i rv_int0) (by omega) (by omega)) fun i j h1 h2 => ⟨rv_addI, by omega⟩) (ei_of fun B8 H8 l => lenS rfl (hv5_7.mono l.b)) ?_) l7.h b7 ?_
      · intro i j h1 h2
        subst h2
        have c := round_ne (a := a) (r := i - (a + 1)) (n := ss.length) a0 a1 (by omega) (by omega)
        rw [show a + 1 + (i - (a + 1)) = i by omega] at c
        exact ⟨rv_int (C := fun _ j => 0 < j) (by show (0 : Int) < _; omega), Int.emod_nonneg _ (by omega), Int.emod_lt_of_pos _ (by omega), c⟩
      rintro d v10 B8 H8 ⟨o, rfl, o0, o1, oa⟩ l8 b8 hv10
      cases hv10
      have l68 := l7.trans l8
      have hv5_8 := hv5_6.mono l68.b
      have hv8_8 := hv8.mono l68.b
      have pl6 := l6.k p _ (by simp [hpg]) pl
      have p6 := l6.own pl pi
      have pl8 := l68.k p _ (by simp [hpg]) pl6
      have p8 := l68.own pl6 p6
      have wq8 := (wq.mono l6.b).mono l68.b
      -- if way in (2, 3)
      refine q_whenS (k := decide (way ∈ ([2, 3] : List Int))) (fun σ' B' => ∃ (a o : Int), σ' = [some (.ref g), some v1, some v2, some (.int many), some (.int way), some v5, some (.ref p), some (.int (0 + (i : Nat))), some v8, some (.int a), some (.int o)] ∧ 0 ≤ a ∧ a < ss.length ∧ 0 ≤ o ∧ o < ss.length ∧ o ≠ a)
        (et_test (ev_op (ev_var rfl (.int way)) (ev_tup (ds := ([2, 3] : List Int).map PyData.int) (ea_cons ev_i (ea_cons ev_i ea_nil)) (by show 2 ≤ sizeLine; decide)) rv_inTI)) l8.h ?_ ?_ ?_
      · intro _ B9 H9 l9 N hN
        have hv5_9 := hv5_8.mono l9.b
        have c : EvA K (tCons (tOp (rI (fun _ j => 0 < j) fun i j => .int (i % j)) (tVar 7) (tCB (rLenA K) (tCons (tVar 5) tNil))) (tCons (tOp (rI (fun _ j => 0 < j) fun i j => .int (i % j)) (tOp (rAddA K) (tVar 7) (tC (.int 1))) (tCB (rLenA K) (tCons (tVar 5) tNil))) tNil))
            [some (.ref g), some v1, some v2, some (.int many), some (.int way), some v5, some (.ref p), some (.int (0 + (i : Nat))), some v8, some (.int a), some (.int o)] B9 H9 [.int ((0 + (i : Nat)) % ss.length), .int ((0 + (i : Nat) + 1) % ss.length)] :=
          ea_cons (ev_op (ev_var rfl (.int _)) (lenS rfl hv5_9) (rv_int (by show (0 : Int) < _; omega))) (ea_cons (ev_op (ev_op (ev_var rfl (.int _)) ev_i rv_addI) (lenS rfl hv5_9) (rv_int (by show (0 : Int) < _; omega))) ea_nil)
        refine c B9 H9 (Le.refl l9.h) _ fun us B10 H10 l10 hus => ?_
        obtain ⟨u1, u2, rfl, h1, h2⟩ := dq2 hus
        cases h1
        cases h2
        exact ⟨_, _, rfl, hN _ B10 H10 l10 ⟨_, _, rfl, Int.emod_nonneg _ (by omega), Int.emod_lt_of_pos _ (by omega), Int.emod_nonneg _ (by omega), Int.emod_lt_of_pos _ (by omega), (next_ne (by omega) n2).symm⟩⟩
      · intro _ B9 H9 l9
        exact ⟨a, o, rfl, a0, a1, o0, o1, oa⟩
      clear a0 a1 o0 o1 oa a o
      rintro σ9 B9 H9 l9 ⟨a, o, rfl, a0, a1, o0, o1, oa⟩
      have b9 := b8.pure l9
      have pl9 := l9.k p _ (by simp) pl8
      have p9 := l9.own pl8 p8
      have wq9 := wq8.mono l9.b
      have hv5_9 := hv5_8.mono l9.b
      have hv8_9 := hv8_8.mono l9.b
      have l49 : Le [p, g] B4 H4 B9 H9 := l46.trans ((l68.trans l9.any).wk (by simp))
      -- the open list under a change of the bag
      have openAt : ∀ {B' H' : Hp}, Le [g] B9 H9 B' H' → B' p = none ∧ H' p = some (.lst ws) ∧ DqAll K B' ws cs := fun l => ⟨l.own pl9 p9, l.k p _ (by simp [hpg]) pl9, wq9.mono l.b⟩
      refine b_if (g := g) (P := fun k => k = true → cs ≠ []) (ebt_and (P1 := fun _ => True) (P2 := fun k => k = true → cs ≠ []) (ebt_test (K := K) (P := fun _ => True) ((eb_of (d := .bool (decide (way = 4))) fun B' H' l => ev_op (ev_var rfl (.int way)) ev_i rv_eqI).imp fun d h => ⟨_, h, trivial⟩))
        (fun _ => ebt_and (P1 := fun k => k = true → cs ≠ []) (P2 := fun _ => cs ≠ []) (ebt_test (K := K) (P := fun k => k = true → cs ≠ []) ((eb_of (d := .bool (!cs.isEmpty)) fun B' H' l => ?_).imp fun d h => ⟨!cs.isEmpty, h, fun z => by simpa using z⟩))
          (fun hne => ebt_test (K := K) (P := fun _ => cs ≠ []) ((eb_op (R1 := RI fun r => 0 ≤ r ∧ r < 3) (Rb := (· = .int 0)) (R := fun d => ∃ k, d = .bool k) (eb_pickC (n := 3) rfl (fun _ _ _ => ev_i) (by decide) (by decide)) (eb_of fun _ _ _ => ev_i) fun x y hx hy => by
            obtain ⟨r, rfl, _⟩ := hx
            subst hy
            exact ⟨_, rv_cmp (g := fun i j => decide (j < i)), _, rfl⟩).imp fun d h => by
              obtain ⟨k, rfl⟩ := h
              exact ⟨k, rfl, hne rfl⟩)) (fun h => fun z => by cases z) fun k h _ => h) (fun h => fun z => by cases z) fun k h => h) l9.h b9 ?_ ?_
      · obtain ⟨o1, o2, o3⟩ := openAt l
        exact ev_own (p := p) (fun B1 hB1 hd _ _ => ev_op (ev_var rfl hd) (ev_lst ea_nil (Nat.zero_le _)) rv_neL0) o3 l.h o1 o2 sc_bool
      · intro hne B10 H10 l10 b10
        obtain ⟨p10, pl10, wq10⟩ := openAt l10
        have cne := hne rfl
        have lenF : ∀ B' H', Le [g] B10 H10 B' H' → Ev K (tCB (rLenA K) (tCons (tVar 6) tNil)) [some (.ref g), some v1, some v2, some (.int many), some (.int way), some v5, some (.ref p), some (.int (0 + (i : Nat))), some v8, some (.int a), some (.int o)] B' H' (.int cs.length) := fun B' H' l => by
          obtain ⟨o1, o2, o3⟩ := openAt (l10.trans l)
          exact ev_own (p := p) (fun B1 hB1 hd _ _ => ev_cb (ea_cons (ev_var rfl hd) ea_nil) rc_lenL) o3 l.h o1 o2 sc_int
        have cpos : 0 < cs.length := List.length_pos_iff.mpr cne
        refine b_append (K := K) (g := g) (p := p) (vs := ws) (R := fun d => d ∈ cs) rfl ?_ l10.h b10 p10 pl10 hpg (by omega) fun d v B' H' r l b' p' pl' hv => ?_
        · intro B11 H11 l11 b11 Q' q'
          refine ⟨.ref p, rfl, ?_⟩
          refine eb_pickC (K := K) (g := g) (n := cs.length) rfl (fun B' H' l => lenF B' H' (l11.trans l)) (by omega) (by omega) B11 H11 (Le.refl l11.h) b11 _ ?_
          rintro d v B12 H12 ⟨r, rfl, r0, r1⟩ l12 b12 hv
          cases hv
          obtain ⟨p12, pl12, wq12⟩ := openAt (l10.trans (l11.trans l12))
          have hr : r.toNat < cs.length := by omega
          obtain ⟨u, hu1, hu2⟩ := wq12.get' (List.getElem?_eq_getElem hr)
          refine ix_own pl12 (v := u) (by have z := atI_nat hu1; rwa [show ((r.toNat : Nat) : Int) = r by omega] at z) ?_
          exact q' _ u B12 H12 (List.getElem_mem hr) l12 b12 hu2
        · refine ⟨B', cs ++ [d], ws ++ [v], _, _, _, _, rfl, ?_, b', p', pl', (wq10.mono l.b).append (.cons hv .nil), by rw [List.length_append, cl]; rfl, fun c hc => ?_⟩
          · exact l49.trans ((l10.wk (by simp)).trans l)
          · rcases List.mem_append.mp hc with z | z
            · exact cg c z
            · rw [List.mem_singleton.mp z]; exact cg d r
      · intro _ B10 H10 l10 b10
        obtain ⟨p10, pl10, wq10⟩ := openAt l10
        have ha : a.toNat < ss.length := by omega
        have ho : o.toNat < ss.length := by omega
        refine b_append (K := K) (g := g) (p := p) (vs := ws) (R := fun d => d = .tuple [.str wd, .int ss[a.toNat], .int ss[o.toNat]]) rfl (eb_of fun B' H' l => ev_tup (ea_cons (ev_var rfl ((hv8_9.mono l10.b).mono l.b)) (ea_cons (ev_op (ev_var rfl ((hv5_9.mono l10.b).mono l.b)) (ev_var rfl (.int a)) (rv_ixL ?_)) (ea_cons (ev_op (ev_var rfl ((hv5_9.mono l10.b).mono l.b)) (ev_var rfl (.int o)) (rv_ixL ?_)) ea_nil))) (by show 3 ≤ sizeLine; decide)) l10.h b10 p10 pl10 hpg (by omega) fun d v B' H' r l b' p' pl' hv => ?_
        · have z := atI_nat (xs := ss.map PyData.int) (j := a.toNat) (v := .int ss[a.toNat]) (by rw [List.getElem?_map, List.getElem?_eq_getElem ha]; rfl)
          rwa [show ((a.toNat : Nat) : Int) = a by omega] at z
        · have z := atI_nat (xs := ss.map PyData.int) (j := o.toNat) (v := .int ss[o.toNat]) (by rw [List.getElem?_map, List.getElem?_eq_getElem ho]; rfl)
          rwa [show ((o.toNat : Nat) : Int) = o by omega] at z
        · refine ⟨B', cs ++ [d], ws ++ [v], _, _, _, _, rfl, ?_, b', p', pl', (wq10.mono l.b).append (.cons hv .nil), by rw [List.length_append, cl]; rfl, fun c hc => ?_⟩
          · exact l49.trans ((l10.wk (by simp)).trans l)
          · rcases List.mem_append.mp hc with z | z
            · exact cg c z
            · rw [List.mem_singleton.mp z, r]
              exact ⟨wd, _, _, rfl, hwd, hss.sub _ (List.getElem_mem ha), hss.sub _ (List.getElem_mem ho), nd_get hss.nd (List.getElem?_eq_getElem ha) (List.getElem?_eq_getElem ho) (by omega)⟩
    · rintro σ' H' ⟨Bi, cs, ws, o7, o8, o9, o10, rfl, li, bi, pi, pl, wq, cl, cg⟩
      refine ⟨.ref p, rfl, p, ws, rfl, .inl ⟨.inl (.inl pl), fun t ht => ?_⟩⟩
      have lt : Le [] Bi H' (upd Bi t (.tup ws)) (upd H' t (.tup ws)) := Le.new li.h ht
      refine q (.tuple cs) ⟨xs, m, cs, rfl, rfl, by omega, by omega, cg⟩ (.ref t) _ _ ?_ (bi.pure lt) (.tup (.inl (.inl upd_same)) (wq.mono lt.b))
      exact l14.trans ((li.local hp).trans lt.any)
end
end K04

set_option maxRecDepth 100000
set_option maxHeartbeats 8000000
namespace K04
open PySem PySem.Spec PyProof.Rows L2 MA
section
variable {P : Program} {w : World} {K : PySem.W.Frag} {mg : PySem.Str → Option Value} {base : Heap}
theorem ok_law_case (D : Df K mg "_law_case" s__law_case ["bag", "most", "length"]) (C__law_pick : Cl P w K mg base CX0 1 "_law_pick" ["bag", "many"] (PickS K)) (C__law_items : Cl P w K mg base CX0 2 "_law_items" ["bag", "many"] (ItemsS K))
    (C__law_script : Cl P w K mg base CX0 2 "_law_script" ["bag", "items", "most"] (ScriptS K)) (z_tuple : mg "tuple" = none) (z_range : mg "range" = none) (z_len : mg "len" = none) (z_list : mg "list" = none) :
    Cl P w K mg base CX0 3 "_law_case" ["bag", "most", "length"] (CaseS K) :=
  Cl.of D sc__law_case (bg_len (n := 2) fun ds h => by obtain ⟨m, l, rfl, _⟩ := h; rfl) fun f cdv A outer s H vs Q E hr h => by
    obtain ⟨g, us, B, ds, rfl, e, hb, hq, ⟨m, l, rfl, m2, m60, l1', l1000⟩, q⟩ := h
    obtain ⟨v1, v2, rfl, hv1, hv2⟩ := dq2 hq
    cases hv1
    cases hv2
    refine ⟨_, (pss_cons (ps_set (i := 3) sc__law_case.nd rfl (.inl rfl) (pe_callC C__law_items (hr.mono (by decide)) (by rfl) pass0 (pa_cons (pv 0) (pa_cons (pe_op op_addA pe_int (pe_callC C__law_pick (hr.mono (by decide)) (by rfl) pass0 (pa_cons (pv 0) (pa_cons (pe_op op_sub (pv 1) pe_int) pa_nil)))) pa_nil)))) (pss_cons (ps_set (i := 4) sc__law_case.nd rfl (.inr rfl) (pe_callTy call_list_of (by rfl) z_list (by decide +kernel) (pa_cons (pv 3) pa_nil))) (pss_cons (ps_setLc (i := 5) (own := [("k", 6)]) (tt := tYes) (te := (tBM K "list" rPopAt (tVar 4) (tCons (tCall _ [] E0 (tCons (tVar 0) (tCons (tCB (rLenA K) (tCons (tVar 4) tNil)) tNil))) tNil))) rfl sc__law_case.nd rfl rfl (sw_true rfl rfl rfl (by decide +kernel)) (pi_range1 (by rfl) z_range (pa_cons (pe_callB call_len_seq (by rfl) z_len PySem.boot_len (pa_cons (pv 3) pa_nil)) pa_nil)) (blkOk_by (N := N__law_case) (sc := defScope s__law_case) (by decide +kernel)) (fun _ _ _ _ _ => (pg_name (i := 6) sc__law_case.nd rfl (.inl rfl))) (fun _ _ _ _ _ => pts_nil) (fun _ _ _ _ _ => (pe_bm PySem.F.plainAttrs_list PySem.F.slot_list_pop PySem.F.type_list_pop mt_popAt (pv 4) (pa_cons (pe_callC C__law_pick (hr.mono (by decide)) (by rfl) pass0 (pa_cons (pv 0) (pa_cons (pe_callB call_len_seq (by rfl) z_len PySem.boot_len (pa_cons (pv 4) pa_nil)) pa_nil))) pa_nil)))) (pss_one (ps_ret (pe_tup (pa_cons (pe_callTy call_tuple_of (by rfl) z_tuple (by decide +kernel) (pa_cons (pv 5) pa_nil)) (pa_cons (pe_callC C__law_script (hr.mono (by decide)) (by rfl) pass0 (pa_cons (pv 0) (pa_cons (pv 3) (pa_cons (pv 2) pa_nil)))) pa_nil)))))))), ?_⟩
    refine b_set (K := K) (g := g) (R := fun d => ∃ xs : List Int, d = .list (xs.map PyData.int) ∧ 2 ≤ xs.length ∧ (xs.length : Int) ≤ m ∧ xs.Nodup ∧ ∀ k ∈ xs, 0 ≤ k ∧ k < 60)
      ((eb_call (K := K) (g := g) (Rr := fun ds => ∃ n : Int, ds = [.int n] ∧ 2 ≤ n ∧ n ≤ m) rfl (fun B1 H1 l b Q q => eba_cons (K := K) (g := g) (R1 := RI fun n => 2 ≤ n ∧ n ≤ m) (ei_op (f := fun i j => i + j) (ei_of (i := 2) fun _ _ _ => ev_i) (eb_pickC (n := m - 1) rfl (fun B1 H1 l => ev_op (ev_var rfl (.int m)) ev_i rv_int0) (by omega) (by omega)) fun i j h1 h2 => ⟨rv_addI, by omega⟩) eba_nil B1 H1 l b Q fun ds vs B2 H2 r => q ds vs B2 H2 (by
          obtain ⟨_, _, rfl, ⟨n, rfl, h1, h2⟩, rfl⟩ := r
          exact ⟨n, rfl, h1, h2⟩)) fun ds h => by
            obtain ⟨n, rfl, h1, h2⟩ := h
            exact ⟨n, rfl, by omega, by omega⟩).imp fun d h => by
              obtain ⟨ds, ⟨n, rfl, h1, h2⟩, n', xs, en, rfl, h3, h4, h5⟩ := h
              cases en
              exact ⟨xs, rfl, by omega, by omega, h4, h5⟩) e hb ?_
    rintro d v3 B1 H1 ⟨xs, rfl, x2, xm, xnd, xin⟩ l1 b1 hv3
    -- left = list(items)
    cases hv3 with
    | lst hs hqx =>
      rename_i a ys
      cases ofInts hqx
      have hs1 := l1.h _ _ hs
      refine q_asgR ⟨.ref a, rfl, a, _, rfl, .inl (.inl (.inl hs1)), fun p hp => q_asgR ?_⟩
      have hv3 : Dq K B1 (.ref a) (.list (xs.map PyData.int)) := .lst hs hqx
      have hpB : B1 p = none := by
        cases z : B1 p with
        | none => rfl
        | some o => rw [l1.h p o z] at hp; cases hp
      have hpg := b1.ne hp
      have l2 : Le [p, g] B1 H1 B1 (upd H1 p (.lst (xs.map V.int))) := Le.made l1.h hp
      have b2 : Bag g B1 (upd H1 p (.lst (xs.map V.int))) := by
        obtain ⟨x, y, z, hg⟩ := b1.has
        exact ⟨b1.own, x, y, z, by rw [upd_ne (Ne.symm hpg)]; exact hg⟩
      -- line
      have hta : EvA K (tCons (tCB (rLenA K) (tCons (tVar 3) tNil)) tNil) [some (.ref g), some (.int m), some (.int l), some (.ref a), some (.ref p), none, none] B1 (upd H1 p (.lst (xs.map V.int))) [.int xs.length] := by
        have c := rc_lenL (K := K) (ds := xs.map PyData.int)
        rw [List.length_map] at c
        exact ea_cons (ev_cb (ea_cons (ev_var rfl hv3) ea_nil) c) ea_nil
      refine b_pops (K := K) (n := xs.length) (xs := xs) (σ := [some (.ref g), some (.int m), some (.int l), some (.ref a), some (.ref p), none, none]) (j := 6) (a := 4) (b := 0) (vs := [6]) hta l2.h b2 hpB upd_same hpg (fun _ => rfl) (fun _ => rfl) (fun _ => rfl) (by omega) (by omega) (by omega) fun acc rest v B3 H3 pm ln l3 b3 hv => ?_
      obtain ⟨a1, a2⟩ := perm_part pm xnd
      have l13 : Le [g] B1 H1 B3 H3 := (l2.trans l3).local hp
      have hv3' := hv3.mono l3.b
      refine b_ret (K := K) (g := g) (eb_tup (eba_cons (eb_of (d := .tuple (acc.map PyData.int)) fun B4 H4 l => ev_cb (rr := rTupA K) (ea_cons (ev_var rfl (hv.mono l.b)) ea_nil) rc_tupL) (eba_cons (eb_call rfl (eba_of (ds := [.list (xs.map PyData.int), .int l]) fun B4 H4 l => ea_cons (ev_var rfl (hv3'.mono l.b)) (ea_cons (ev_var rfl (.int _)) ea_nil)) fun ds h => by
        subst h
        exact ⟨xs, l, rfl, x2, by omega, xnd, l1', l1000⟩) eba_nil)) fun ds h => by
          obtain ⟨_, _, rfl, _, _, _, rfl, _, rfl⟩ := h
          show 2 ≤ sizeLine
          decide) l3.h b3 ?_
      rintro d v4 B4 H4 ⟨ds, rfl, _, _, rfl, rfl, _, _, rfl, ⟨ds2, rfl, xs', l', cs, e1, rfl, c1, c2, c3⟩, rfl⟩ l4 b4 hv4
      have exs : xs.map PyData.int = xs'.map PyData.int := by
        have := congrArg (fun l => match l with | PyData.list a :: _ => a | _ => []) e1
        exact this
      have el : l = l' := by
        have := congrArg (fun l => match l with | [_, PyData.int a] => a | _ => 0) e1
        exact this
      subst el
      refine q _ ⟨m, l, acc, cs, rfl, rfl, by omega, by omega, a1, fun k hk => xin k (a2 k hk), c1, c2, fun c hc => ?_⟩ v4 B4 H4 ((l1.trans l13).trans l4) b4 hv4
      obtain ⟨wd, i, j, ec, hw, hi, hj, hne⟩ := c3 c hc
      have mem : ∀ k, k ∈ xs' → k ∈ acc := fun k hk => by
        have hk2 : k ∈ xs := by
          have : PyData.int k ∈ xs'.map PyData.int := List.mem_map.mpr ⟨k, hk, rfl⟩
          rw [← exs] at this
          obtain ⟨k', h1, h2⟩ := List.mem_map.mp this
          cases h2
          exact h1
        have hr : rest = [] := by
          have := pm.length_eq
          rw [List.length_append] at this
          exact List.length_eq_zero_iff.mp (by omega)
        rw [hr, List.append_nil] at pm
        exact pm.mem_iff.mpr hk2
      exact ⟨wd, i, j, ec, hw, mem i hi, mem j hj, hne⟩
end
end K04

set_option maxRecDepth 100000
set_option maxHeartbeats 8000000
namespace K04
open PySem PySem.Spec PyProof.Rows L2 MA
section
variable {P : Program} {w : World} {K : PySem.W.Frag} {mg : PySem.Str → Option Value} {base : Heap}
theorem ok_played (D : Df K mg "played" s_played ["items", "script"]) (z_list : mg "list" = none) : Cl P w K mg base CX0 1 "played" ["items", "script"] (PlayedS K) :=
  Cl.pu D sc_played (fun ds h => by obtain ⟨_, R, cs, h | h, _⟩ := h <;> rw [h] <;> rfl) fun f cdv A outer s H vs Q E B ds hr e hq hp k => by
    obtain ⟨xs, R, cs, hds, cg, fit, r1000⟩ := hp
    have hu := hr.units0
    refine ⟨_, (pss_cons (ps_set (i := 2) sc_played.nd rfl (.inl rfl) (pe_callTy call_list_of (by rfl) z_list (by decide +kernel) (pa_cons (pv 0) pa_nil))) (pss_cons (ps_for PassesOwn.never rfl (pi_tup (pv 1)) (pg_tup rfl (pgs_cons (pg_name (i := 3) sc_played.nd rfl (.inl rfl)) (pgs_cons (pg_name (i := 4) sc_played.nd rfl (.inl rfl)) (pgs_cons (pg_name (i := 5) sc_played.nd rfl (.inl rfl)) pgs_nil)))) (pss_cons (ps_expr (pe_bm PySem.F.plainAttrs_list PySem.F.slot_list_remove PySem.F.type_list_remove mt_remove (pv 2) (pa_cons (pv 4) pa_nil))) (pss_cons (ps_set (i := 6) sc_played.nd rfl (.inl rfl) (pe_bm PySem.F.plainAttrs_list PySem.F.slot_list_index PySem.F.type_list_index mt_index (pv 2) (pa_cons (pv 5) pa_nil))) (pss_cons (ps_if (pt_cmpR (op_eqA hu) (pv 3) pe_str (nomark _)) (pss_one (ps_aug (i := 6) sc_played.nd rfl (.inl rfl) pe_int ip_add)) pss_nil) (pss_one (ps_expr (pe_bm PySem.F.plainAttrs_list PySem.F.slot_list_insert PySem.F.type_list_insert mt_insert (pv 2) (pa_cons (pv 6) (pa_cons (pv 4) pa_nil))))))))) (pss_one (ps_ret (pv 2))))), ?_⟩
    replace k := k (.list ((playL cs R).map PyData.int)) (fun R' cs' h => by
      have z : ∀ {a b : List Int} {c d : List PyData}, ds = [.list (a.map PyData.int), .tuple c] ∨ ds = [.tuple (a.map PyData.int), .tuple c] → ds = [.list (b.map PyData.int), .tuple d] ∨ ds = [.tuple (b.map PyData.int), .tuple d] → a = b ∧ c = d := fun h1 h2 => by
        rcases h1 with h1 | h1 <;> rcases h2 with h2 | h2 <;> rw [h1] at h2
        · injection h2 with e1 e2
          injection e2 with e2 _
          exact ⟨ints_inj (PyData.list.inj e1), PyData.tuple.inj e2⟩
        · injection h2 with e1 e2
          cases e1
        · injection h2 with e1 e2
          cases e1
        · injection h2 with e1 e2
          injection e2 with e2 _
          exact ⟨ints_inj (PyData.tuple.inj e1), PyData.tuple.inj e2⟩
      obtain ⟨h1, h2⟩ := z hds h
      rw [h1, h2])
    obtain ⟨v0, v1, rfl, hv0, hv1, hseq⟩ : ∃ v0 v1, vs = [v0, v1] ∧ (∃ a, v0 = .ref a ∧ (SqL K B a (R.map V.int) ∨ SqT K B a (R.map V.int))) ∧ Dq K B v1 (.tuple cs) ∧ True := by
      rcases hds with rfl | rfl
      · obtain ⟨v0, v1, rfl, h0, h1⟩ := dq2 hq
        cases h0 with
        | lst h q =>
          cases ofInts q
          exact ⟨_, v1, rfl, ⟨_, rfl, .inl (.inl (.inl h))⟩, h1, trivial⟩
      · obtain ⟨v0, v1, rfl, h0, h1⟩ := dq2 hq
        cases h0 with
        | tup h q =>
          cases ofInts q
          exact ⟨_, v1, rfl, ⟨_, rfl, .inr h⟩, h1, trivial⟩
    obtain ⟨a, rfl, hsq⟩ := hv0
    -- row = list(items)
    refine q_asgR ⟨.ref a, rfl, a, _, rfl, hsq.imp (Evl.ex_l e) (Evl.ex_t e), fun p hp => ?_⟩
    have hB := none_of e hp
    have l1 : Le [p] B H B (upd H p (.lst (R.map V.int))) := Le.made e hp
    cases hv1 with
    | tup hs hcs =>
      rename_i b ys
      refine ⟨.ref b, rfl, b, rfl, ⟨ys, Evl.ex_t l1.h hs⟩, for_tup (xs := ys) (fun i σ' H' => ∃ (Bi : Hp) (o3 o4 o5 o6 : Option V), σ' = [some (.ref a), some (.ref b), some (.ref p), o3, o4, o5, o6] ∧ Le [p] B H Bi H' ∧ Bi p = none ∧ H' p = some (.lst ((playL (cs.take i) R).map V.int)))
        ⟨B, none, none, none, none, rfl, l1, hB, upd_same⟩ (fun i σ' H' _ h => ?_) (fun i x σ' H' hi h => ?_) (fun σ' H' h => ?_)⟩
      · obtain ⟨Bi, _, _, _, _, _, l, _⟩ := h
        exact Evl.ex_t (l.b.trans l.h) hs
      · obtain ⟨Bi, o3, o4, o5, o6, rfl, l, bp, hpl⟩ := h
        obtain ⟨c, hc, hx⟩ := hcs.get hi
        have hcm : c ∈ cs := List.mem_of_getElem? hc
        have hst := playL_take (R := R) hc
        obtain ⟨hfit, hperm⟩ : Fit xs (playL (cs.take i) R) ∧ (playL (cs.take i) R).Perm R := by
          have h := (play_of (cs.take i) (fun c hc => cg c (List.mem_of_mem_take hc)) fit).2
          exact ⟨fun k hk => by rw [h.count_eq, fit k hk], h⟩
        generalize playL (cs.take i) R = Rk at hst hfit hperm hpl
        have hlen : Rk.length ≤ 1000 := by rw [hperm.length_eq]; exact r1000
        obtain ⟨wd, i', j, rfl, hw, hi', hj, hne⟩ := cg c hcm
        have mi : i' ∈ Rk := List.one_le_count_iff.mp (by rw [hfit i' hi']; exact Nat.le_refl _)
        have mj : j ∈ Rk.erase i' := List.one_le_count_iff.mp (by rw [List.count_erase_of_ne (Ne.symm hne), hfit j hj]; exact Nat.le_refl _)
        refine gt3 l.h (hx.mono l.b) fun y3 y4 y5 h3 h4 h5 => ?_
        cases h4
        cases h5
        -- row.remove(item)
        refine q_rem rfl rfl hpl mi ?_
        have l2 : Le [p] Bi H' Bi (upd H' p (.lst ((Rk.erase i').map V.int))) := Le.put l.h bp (by simp)
        -- place = row.index(other)
        refine q_idx rfl rfl upd_same mj ?_
        -- if word == 'behind': place += 1
        have hidx : (Rk.erase i').idxOf j < (Rk.erase i').length := List.idxOf_lt_length_of_mem mj
        have hel : (Rk.erase i').length ≤ 1000 := Nat.le_trans (List.length_erase_le) hlen
        have ins : ∀ (B5 H5 : Hp) (n : Nat), n ≤ 1001 → Le [p] Bi H' B5 H5 → B5 p = none → H5 p = some (.lst ((Rk.erase i').map V.int)) → n = (Rk.erase i').idxOf j + (if decide (wd = "behind") then 1 else 0) →
            ∀ N : L2.St → Hp → Prop, (∀ σ3 B3 H3, Le [p] B H B3 H3 → B3 p = none → H3 p = some (.lst ((MA.stepI (decide (wd = "behind")) i' j Rk).map V.int)) → (∃ o3 o4 o5 o6, σ3 = [some (.ref a), some (.ref b), some (.ref p), o3, o4, o5, o6]) → N σ3 H3) →
            ∀ rr : List V → Hp → VK → Prop, True → N [some (.ref a), some (.ref b), some (.ref p), some y3, some (.int i'), some (.int j), some (.int n)] (upd H5 p (.lst (((Rk.erase i').map V.int).take n ++ [.int i'] ++ ((Rk.erase i').map V.int).drop n))) := fun B5 H5 n hn l5 b5 hp5 en N hN _ _ => by
          have l6 : Le [p] B5 H5 B5 (upd H5 p (.lst (((Rk.erase i').map V.int).take n ++ [.int i'] ++ ((Rk.erase i').map V.int).drop n))) := Le.put l5.h b5 (by simp)
          refine hN _ B5 _ ((l.trans l5).trans l6) b5 ?_ ⟨_, _, _, _, rfl⟩
          rw [upd_same, en]
          unfold MA.stepI
          simp only [List.map_append, List.map_take, List.map_drop, List.map_cons, List.map_nil]
        refine q_whenS (k := decide (wd = "behind")) (fun σ' B' => σ' = [some (.ref a), some (.ref b), some (.ref p), some y3, some (.int i'), some (.int j), some (.int (((Rk.erase i').idxOf j + (if decide (wd = "behind") then 1 else 0) : Nat) : Int))])
          (et_test (ev_op (ev_var rfl h3) ev_s rv_eqS)) l2.h (fun hk B5 H5 l5 N hN => ?_) (fun hk B5 H5 l5 => ?_) fun σ' B5 H5 l5 hσ => ?_
        · refine ⟨_, rfl, _, 1, rfl, rfl, hN _ B5 H5 (Le.refl l5.h) ?_⟩
          rw [hk]
          rfl
        · rw [hk]
          rfl
        · subst hσ
          have b5 := l5.own upd_same bp
          have hp5 := l5.k p _ (by simp) upd_same
          have hsl : 100000 < sizeLine := by rw [sizeLine_eq]; decide
          have hn : (Rk.erase i').idxOf j + (if decide (wd = "behind") then 1 else 0) ≤ 1001 := by split <;> omega
          refine ⟨.ref p, rfl, .inl ⟨rfl, _, .inl (.inl hp5)⟩, _, rfl, .int i', rfl, p, _, _, .int i', rfl, rfl, hp5, by rw [List.length_map]; omega, by omega, by omega, ?_⟩
          rw [Int.toNat_natCast]
          refine ins B5 H5 _ hn (l2.trans l5.any) b5 hp5 rfl _ (fun σ3 B3 H3 l3 b3 hp3 hσ3 => ?_) (fun _ _ _ => True) trivial
          obtain ⟨o3, o4, o5, o6, rfl⟩ := hσ3
          refine ⟨B3, o3, o4, o5, o6, rfl, l3, b3, ?_⟩
          rw [hst, hp3]
          rfl
      · obtain ⟨Bi, o3, o4, o5, o6, rfl, l, bp, hpl⟩ := h
        rw [hcs.length, List.take_length] at hpl
        refine ⟨.ref p, rfl, ?_⟩
        have lg := l.give hp bp hpl
        exact k (.ref p) _ H' (lg.local hp) (.lst upd_same (dqInts _))
end
end K04

set_option maxRecDepth 100000
set_option maxHeartbeats 8000000
namespace K04
open PySem PySem.Spec PyProof.Rows L2 MA
section
variable {P : Program} {w : World} {K : PySem.W.Frag} {mg : PySem.Str → Option Value} {base : Heap}
theorem ok_fenced (D : Df K mg "fenced" s_fenced ["items"]) {tF : Tok} (g_FENCE : mg "FENCE" = some (.int (-1) tF)) : Cl P w K mg base CX0 1 "fenced" ["items"] (FencedS K) :=
  Cl.pu D sc_fenced (fun ds h => by obtain ⟨R, h, _⟩ := h; rw [h]; rfl) fun f cdv A outer s H vs Q E B ds hr e hq hp k => by
    obtain ⟨R, rfl, r1000⟩ := hp
    refine ⟨_, (pss_cons (ps_set (i := 1) sc_fenced.nd rfl (.inl rfl) (pe_lst pa_nil)) (pss_cons (ps_for PassesOwn.never rfl (pi_list (pv 0)) (pg_name (i := 2) sc_fenced.nd rfl (.inl rfl)) (pss_cons (ps_expr (pe_bm PySem.F.plainAttrs_list PySem.F.slot_list_append PySem.F.type_list_append mt_append (pv 1) (pa_cons (pe_glob (v := .int (-1)) (by rfl) g_FENCE ⟨_, rfl⟩) pa_nil))) (pss_one (ps_expr (pe_bm PySem.F.plainAttrs_list PySem.F.slot_list_append PySem.F.type_list_append mt_append (pv 1) (pa_cons (pv 2) pa_nil)))))) (pss_one (ps_ret (pv 1))))), ?_⟩
    replace k := k (.list ((fencedL R).map PyData.int)) (fun R' h => by
      injection h with e1 _
      rw [ints_inj (PyData.list.inj e1)])
    obtain ⟨v0, rfl, hv⟩ := dq1 hq
    cases hv with
    | lst hs hqx =>
      rename_i a ys
      cases ofInts hqx
      refine ⟨Nat.zero_le _, fun p hp => ?_⟩
      have hB := none_of e hp
      have l1 : Le [p] B H B (upd H p (.lst [])) := Le.made e hp
      have hsq := l1.h _ _ hs
      refine ⟨.ref a, rfl, a, rfl, ⟨_, .inl (.inl hsq)⟩, for_list (xs := R.map V.int) (fun i σ' H' => ∃ (Bi : Hp) (o2 : Option V), σ' = [some (.ref a), some (.ref p), o2] ∧ Le [p] B H Bi H' ∧ Bi p = none ∧ H' p = some (.lst ((fencedL (R.take i)).map V.int)))
        ⟨B, none, rfl, l1, hB, upd_same⟩ (fun i σ' H' _ h => ?_) (fun i x σ' H' hi h => ?_) (fun σ' H' h => ?_)⟩
      · obtain ⟨Bi, _, _, l, _⟩ := h
        exact .inl (.inl (l.h _ _ (l.b _ _ hs)))
      · obtain ⟨Bi, o2, rfl, l, bp, hpl⟩ := h
        rw [List.getElem?_map] at hi
        cases hr : R[i]? with
        | none => rw [hr] at hi; cases hi
        | some n =>
          rw [hr] at hi
          cases hi
          have hlt : i < R.length := (List.getElem?_eq_some_iff.mp hr).1
          have hfl : ∀ L : List Int, (fencedL L).length = 2 * L.length := by
            intro L
            induction L with
            | nil => rfl
            | cons a L ih =>
              show ((-1 : Int) :: a :: fencedL L).length = _
              rw [List.length_cons, List.length_cons, ih, List.length_cons]
              omega
          have hl := hfl (R.take i)
          rw [List.length_take] at hl
          refine q_append (K := K) (p := p) rfl (ev_c (.int (-1))) l.h bp hpl (by rw [List.length_map]; omega) fun v B2 H2 l2 b2 hp2 hv => ?_
          cases hv
          refine s_append (K := K) (p := p) rfl (ev_var rfl (.int n)) l2.h b2 hp2 (by rw [List.length_append, List.length_map]; show _ + 1 < _; omega) fun v B3 H3 l3 b3 hp3 hv => ?_
          cases hv
          refine ⟨B3, _, rfl, (l.trans l2).trans l3, b3, ?_⟩
          rw [hp3, List.take_add_one, hr]
          unfold fencedL
          simp only [List.flatMap_append, List.map_append, Option.toList, List.flatMap_cons, List.flatMap_nil, List.append_assoc, List.map_cons, List.map_nil, List.cons_append, List.nil_append]
      · obtain ⟨Bi, o2, rfl, l, bp, hpl⟩ := h
        rw [List.length_map, List.take_length] at hpl
        refine ⟨.ref p, rfl, ?_⟩
        have lg := l.give hp bp hpl
        exact k (.ref p) _ H' (lg.local hp) (.lst upd_same (dqInts _))
end
end K04

set_option maxRecDepth 100000
set_option maxHeartbeats 8000000
namespace K04
open PySem PySem.Spec PyProof.Rows L2 MA
section
variable {P : Program} {w : World} {K : PySem.W.Frag} {mg : PySem.Str → Option Value} {base : Heap}
def listTup : PyData → PyData
  | .list es => .tuple es
  | d => d
theorem ok_between_fences (D : Df K mg "between_fences" s_between_fences ["row"]) (z_tuple : mg "tuple" = none) {tF : Tok} (g_FENCE : mg "FENCE" = some (.int (-1) tF)) : Cl P w K mg base CX0 1 "between_fences" ["row"] (PartsS K) :=
  Cl.pu D sc_between_fences (fun ds h => by obtain ⟨R, h, _⟩ := h; rw [h]; rfl) fun f cdv A outer s H vs Q E B ds hr e hq hp k => by
    obtain ⟨R0, rfl, r10⟩ := hp
    have hu := hr.units0
    refine ⟨_, (pss_cons (ps_set (i := 1) sc_between_fences.nd rfl (.inl rfl) (pe_lst pa_nil)) (pss_cons (ps_for PassesOwn.never rfl (pi_list (pv 0)) (pg_name (i := 2) sc_between_fences.nd rfl (.inl rfl)) (pss_one (ps_if (pt_cmpR (op_eqA hu) (pv 2) (pe_glob (v := .int (-1)) (by rfl) g_FENCE ⟨_, rfl⟩) (nomark _)) (pss_one (ps_expr (pe_bm PySem.F.plainAttrs_list PySem.F.slot_list_append PySem.F.type_list_append mt_append (pv 1) (pa_cons (pe_lst pa_nil) pa_nil)))) (pss_one (ps_expr (pe_bm PySem.F.plainAttrs_list PySem.F.slot_list_append PySem.F.type_list_append mt_append (pe_ix ix_seq (pv 1) (pe_un un_neg pe_int) (fun _ _ => rfl)) (pa_cons (pv 2) pa_nil))))))) (pss_one (ps_ret (pe_lc (own := [("part", 3)]) (tt := tYes) (te := (tCB (rTupA K) (tCons (tVar 3) tNil))) rfl sc_between_fences.nd (pi_list (pv 1)) (blkOk_by (N := N_between_fences) (sc := defScope s_between_fences) (by decide +kernel)) (fun _ _ _ _ _ => (pg_name (i := 3) sc_between_fences.nd rfl (.inl rfl))) (fun _ _ _ _ _ => pts_nil) (fun _ _ _ _ _ => (pe_callTy call_tuple_of (by rfl) z_tuple (by decide +kernel) (pa_cons (pv 3) pa_nil)))))))), ?_⟩
    replace k := k (.list ((((-1) :: R0).foldl partStep []).map fun l => .tuple (l.map PyData.int))) (fun R' h => by
      injection h with e1 _
      rw [ints_inj (PyData.list.inj e1)])
    obtain ⟨v0, rfl, hv⟩ := dq1 hq
    have hR : ((-1) :: R0)[0]? = some (-1) := rfl
    have hRl : ((-1) :: R0).length ≤ 10001 := by rw [List.length_cons]; omega
    generalize (-1 : Int) :: R0 = R at k hv hR hRl
    have hsl : 100000 < sizeLine := by rw [sizeLine_eq]; decide
    cases hv with
    | lst hs hqx =>
      rename_i a ys
      cases ofInts hqx
      refine ⟨Nat.zero_le _, fun p hp => ?_⟩
      have hB := none_of e hp
      have l1 : Le [p] B H B (upd H p (.lst [])) := Le.made e hp
      have hsq := l1.h _ _ hs
      refine ⟨.ref a, rfl, a, rfl, ⟨_, .inl (.inl hsq)⟩, for_list (xs := R.map V.int) (fun i σ' H' => ∃ (Bi : Hp) (o2 o3 : Option V), σ' = [some (.ref a), some (.ref p), o2, o3] ∧ Le [p] B H Bi H' ∧ Bi p = none ∧
        ((i = 0 ∧ H' p = some (.lst [])) ∨ (0 < i ∧ ∃ (us : List V) (P : List (List Int)) (b : Addr) (l : List Int), (R.take i).foldl partStep [] = P ++ [l] ∧ us.length ≤ i ∧ l.length ≤ i ∧ H' p = some (.lst (us ++ [.ref b])) ∧ DqAll K Bi us (P.map fun l => .list (l.map PyData.int)) ∧ Bi b = none ∧ H b = none ∧ H' b = some (.lst (l.map V.int)) ∧ b ≠ p)))
        ⟨B, none, none, rfl, l1, hB, .inl ⟨rfl, upd_same⟩⟩ (fun i σ' H' _ h => ?_) (fun i x σ' H' hi h => ?_) (fun σ' H' h => ?_)⟩
      · obtain ⟨Bi, _, _, _, l, _⟩ := h
        exact .inl (.inl (l.h _ _ (l.b _ _ hs)))
      · obtain ⟨Bi, o2, o3, rfl, l, bp, hst⟩ := h
        rw [List.getElem?_map] at hi
        cases hr : R[i]? with
        | none => rw [hr] at hi; cases hi
        | some n =>
          rw [hr] at hi
          cases hi
          have hlt : i < R.length := (List.getElem?_eq_some_iff.mp hr).1
          have htk : (R.take (i + 1)).foldl partStep [] = partStep ((R.take i).foldl partStep []) n := by rw [List.take_add_one, hr, List.foldl_append]; rfl
          refine s_if (k := decide (n = -1)) (et_test (ev_op (ev_var rfl (.int n)) (ev_c (.int (-1))) rv_eqI)) l.h (fun hk B2 H2 l2 => ?_) (fun hk B2 H2 l2 => ?_)
          · have en : n = -1 := of_decide_eq_true hk
            subst en
            rcases hst with ⟨rfl, hpl⟩ | ⟨i0, us, P, b0, l0, e1, e2, e3, hpl, e4, e5, e6, e7, e8⟩
            · have hpl2 := l2.k p _ (by simp) hpl
              have bp2 := l2.own hpl bp
              refine ⟨.ref p, rfl, .inl ⟨rfl, _, .inl (.inl hpl2)⟩, Nat.zero_le _, fun b hb => ?_⟩
              have hbp : b ≠ p := fun z => by rw [z, hpl2] at hb; cases hb
              have ll : Le [p] B H B2 H2 := l.trans l2.any
              have lb : Le [p] B2 H2 B2 (upd H2 b (.lst [])) := Le.made ll.h hb
              have hpb : (upd H2 b (.lst [])) p = some (.lst []) := by rw [upd_ne (Ne.symm hbp)]; exact hpl2
              refine ⟨p, [], .ref b, rfl, rfl, hpb, by show 0 < sizeLine; omega, ?_⟩
              have lp : Le [p] B2 (upd H2 b (.lst [])) B2 (upd (upd H2 b (.lst [])) p (.lst ([] ++ [.ref b]))) := Le.put lb.h bp2 (by simp)
              exact ⟨B2, _, _, rfl, (ll.trans lb).trans lp, bp2, .inr ⟨Nat.succ_pos _, [], [], b, [], htk, Nat.zero_le _, Nat.zero_le _, upd_same, .nil, none_of ll.h hb, ll.back hb, by rw [upd_ne hbp, upd_same]; rfl, hbp⟩⟩
            · have hpl2 := l2.k p _ (by simp) hpl
              have bp2 := l2.own hpl bp
              have e7' := l2.k b0 _ (by simp) e7
              have e5' := l2.own e7 e5
              refine ⟨.ref p, rfl, .inl ⟨rfl, _, .inl (.inl hpl2)⟩, Nat.zero_le _, fun b hb => ?_⟩
              have hbp : b ≠ p := fun z => by rw [z, hpl2] at hb; cases hb
              have hbb : b ≠ b0 := fun z => by rw [z, e7'] at hb; cases hb
              have ll : Le [p] B H (upd B2 b0 (.lst (l0.map V.int))) H2 := (l.trans l2.any).give e6 e5' e7'
              have lb : Le [p] (upd B2 b0 (.lst (l0.map V.int))) H2 (upd B2 b0 (.lst (l0.map V.int))) (upd H2 b (.lst [])) := Le.made ll.h hb
              have hpb : (upd H2 b (.lst [])) p = some (.lst (us ++ [.ref b0])) := by rw [upd_ne (Ne.symm hbp)]; exact hpl2
              have bp3 : (upd B2 b0 (.lst (l0.map V.int))) p = none := by rw [upd_ne (Ne.symm e8)]; exact bp2
              refine ⟨p, _, .ref b, rfl, rfl, hpb, by rw [List.length_append]; show us.length + 1 < sizeLine; omega, ?_⟩
              have lp : Le [p] (upd B2 b0 (.lst (l0.map V.int))) (upd H2 b (.lst [])) (upd B2 b0 (.lst (l0.map V.int))) (upd (upd H2 b (.lst [])) p (.lst ((us ++ [.ref b0]) ++ [.ref b]))) := Le.put lb.h bp3 (by simp)
              refine ⟨_, _, _, rfl, (ll.trans lb).trans lp, bp3, .inr ⟨Nat.succ_pos _, us ++ [.ref b0], P ++ [l0], b, [], ?_, by rw [List.length_append]; show us.length + 1 ≤ _; omega, Nat.zero_le _, upd_same, ?_, ?_, ll.back hb, by rw [upd_ne hbp, upd_same]; rfl, hbp⟩⟩
              · rw [htk, e1]
                unfold partStep
                rw [if_pos rfl]
              · rw [List.map_append]
                exact ((e4.mono l2.b).mono (Evl.Ex.new e5')).append (.cons (.lst upd_same (dqInts _)) .nil)
              · rw [upd_ne hbb]
                exact none_of (l.trans l2.any).h hb
          · have en : n ≠ -1 := of_decide_eq_false hk
            rcases hst with ⟨rfl, hpl⟩ | ⟨i0, us, P, b0, l0, e1, e2, e3, hpl, e4, e5, e6, e7, e8⟩
            · rw [hR] at hr
              exact absurd (Option.some.inj hr).symm en
            · have hpl2 := l2.k p _ (by simp) hpl
              have bp2 := l2.own hpl bp
              have e7' := l2.k b0 _ (by simp) e7
              have e5' := l2.own e7 e5
              refine ⟨.ref p, rfl, 1, rfl, ix_own hpl2 (atI_last us (.ref b0)) ⟨.inl ⟨rfl, _, .inl (.inl e7')⟩, .int n, rfl, b0, _, .int n, rfl, rfl, e7', by rw [List.length_map]; omega, ?_⟩⟩
              have ll : Le [p] B H B2 H2 := l.trans l2.any
              have lp : Le [b0, p] B2 H2 B2 (upd H2 b0 (.lst (l0.map V.int ++ [.int n]))) := Le.put ll.h e5' (by simp)
              refine ⟨B2, _, _, rfl, ((ll.wk (by simp)).trans lp).local e6, bp2, .inr ⟨Nat.succ_pos _, us, P, b0, l0 ++ [n], ?_, by omega, by rw [List.length_append]; show l0.length + 1 ≤ _; omega, by rw [upd_ne (Ne.symm e8)]; exact hpl2, e4.mono l2.b, e5', e6, by rw [upd_same, List.map_append]; rfl, e8⟩⟩
              rw [htk, e1]
              unfold partStep
              rw [if_neg en, List.dropLast_concat, List.getLastD_eq_getLast?, List.getLast?_concat]
              rfl
      · obtain ⟨Bi, o2, o3, rfl, l, bp, hst⟩ := h
        rw [List.length_map] at hst
        rcases hst with ⟨z, _⟩ | ⟨i0, us, P, b0, l0, e1, e2, e3, hpl, e4, e5, e6, e7, e8⟩
        · have := (List.getElem?_eq_some_iff.mp hR).1
          omega
        · rw [List.take_length] at e1
          have lg := l.give e6 e5 e7
          have bp2 : (upd Bi b0 (.lst (l0.map V.int))) p = none := by rw [upd_ne (Ne.symm e8)]; exact bp
          have lg2 := (lg.give hp bp2 hpl).local hp
          have hdq : Dq K (upd (upd Bi b0 (.lst (l0.map V.int))) p (.lst (us ++ [.ref b0]))) (.ref p) (.list ((R.foldl partStep []).map fun l => .list (l.map PyData.int))) := by
            rw [e1, List.map_append]
            refine .lst upd_same (((e4.mono (Evl.Ex.new e5)).mono (Evl.Ex.new bp2)).append (.cons ?_ .nil))
            exact .lst (by rw [upd_ne e8, upd_same]) (dqInts _)
          have c := ev_compL (K := K) (σ := [some (.ref a), some (.ref p), o2, o3]) (B := upd (upd Bi b0 (.lst (l0.map V.int))) p (.lst (us ++ [.ref b0]))) (H := H') (te := tCB (rTupA K) (tCons (tVar 3) tNil)) (tt := tYes) (tl := tVar 1) (j := 3) (vs := [3]) (fun _ => true) listTup (ev_var rfl hdq) (by
              rw [e1, List.length_map, List.length_append]
              have := e4.length
              rw [List.length_map] at this
              show P.length + 1 ≤ 100000
              omega) (fun d v B1 H1 l hd hv => et_yes) (fun d v B1 H1 l hd hv _ => by
            obtain ⟨l', _, rfl⟩ := List.mem_map.mp hd
            exact ev_cb (ea_cons (ev_var rfl hv) ea_nil) rc_tupL)
          rw [filter_true, List.map_map] at c
          refine s_ret (K := K) c lg2.h fun v B3 H3 l3 hv => k v B3 H3 (lg2.trans l3) hv
end
end K04

set_option maxRecDepth 100000
set_option maxHeartbeats 8000000
namespace K04
open PySem PySem.Spec PyProof.Rows L2 MA
section
variable {P : Program} {w : World} {K : PySem.W.Frag} {mg : PySem.Str → Option Value} {base : Heap}
/-- the blocks of a script -/
def effD (cs : List PyData) : PyData := effM (namedI cs) fun n => .tuple ((scrMap cs n).map PyData.int)
theorem good_of {cs : List PyData} (h : ∀ c ∈ cs, isCommandD c = true) : ∀ c ∈ cs, GoodC (namedI cs) c := fun c hc => by
  obtain ⟨x, i, j, rfl, hw, a1, a2, b1, b2, hne⟩ := command_of (h c hc)
  refine ⟨x, i, j, rfl, hw, mem_below.mpr ⟨a1, a2, List.any_eq_true.mpr ⟨_, hc, ?_⟩⟩, mem_below.mpr ⟨b1, b2, List.any_eq_true.mpr ⟨_, hc, ?_⟩⟩, hne⟩
  · simp [itemsD, itemI]
  · simp [itemsD, itemI]
theorem named_nd (cs : List PyData) : (namedI cs).Nodup := below_nodup _
theorem named_in {cs : List PyData} {k : Int} (h : k ∈ namedI cs) : 0 ≤ k ∧ k < 60 := by
  have := mem_below.mp h
  exact ⟨this.1, this.2.1⟩
theorem named_len (cs : List PyData) : (namedI cs).length ≤ 60 := below_len _
theorem fence_count {k : Int} (hk : k ≠ -1) : ∀ ns : List Int, (fencedL ns).count k = ns.count k
  | [] => rfl
  | n :: ns => by
    show ((-1 : Int) :: n :: fencedL ns).count k = _
    rw [List.count_cons_of_ne (Ne.symm hk), List.count_cons, List.count_cons, fence_count hk ns]
theorem fence_len : ∀ ns : List Int, (fencedL ns).length = 2 * ns.length
  | [] => rfl
  | n :: ns => by
    show ((-1 : Int) :: n :: fencedL ns).length = _
    rw [List.length_cons, List.length_cons, fence_len ns, List.length_cons]
    omega
theorem count_nd : ∀ {ns : List Int} {k : Int}, ns.Nodup → k ∈ ns → ns.count k = 1
  | [], _, _, h => by cases h
  | n :: ns, k, hn, h => by
    rw [List.nodup_cons] at hn
    by_cases z : n = k
    · subst z
      rw [List.count_cons_self, List.count_eq_zero.mpr hn.1]
    · rw [List.count_cons_of_ne z]
      exact count_nd hn.2 ((List.mem_cons.mp h).resolve_left fun e => z e.symm)
theorem effect_math {cs : List PyData} (h1 : 1 ≤ cs.length) (h : ∀ c ∈ cs, isCommandD c = true) :
    Fit (namedI cs) (fencedL (namedI cs)) ∧ (∃ R, playL cs (fencedL (namedI cs)) = (-1) :: R ∧ R.length ≤ 10000) ∧ (playL cs (fencedL (namedI cs))).foldl partStep [] = (namedI cs).map (scrMap cs) := by
  have hg := good_of h
  have hm1 : (-1 : Int) ∉ namedI cs := fun z => by have := named_in z; omega
  have fit : Fit (namedI cs) (fencedL (namedI cs)) := fun k hk => by
    rw [fence_count (by have := named_in hk; omega)]
    exact count_nd (named_nd cs) hk
  obtain ⟨p1, p2⟩ := play_of cs hg fit
  have p3 : playL cs (fencedL (namedI cs)) = (namedI cs).flatMap fun n => -1 :: scrMap cs n := by rw [p1, fenced_map (scrMap_other hm1 hg)]
  have hno : ∀ n ∈ namedI cs, (-1 : Int) ∉ scrMap cs n := fun n hn z => by
    rcases scrMap_mem hg z with e | e
    · exact hm1 (e ▸ hn)
    · exact hm1 e
  refine ⟨fit, ?_, by rw [p3, parts_map _ _ hno, List.nil_append]⟩
  have hlen : (playL cs (fencedL (namedI cs))).length ≤ 120 := by
    rw [p2.length_eq, fence_len]
    have := named_len cs
    omega
  obtain ⟨n, r, en⟩ : ∃ n r, namedI cs = n :: r := by
    cases z : namedI cs with
    | nil =>
      exfalso
      obtain ⟨c, cr, ec⟩ : ∃ c cr, cs = c :: cr := by
        cases cs with
        | nil => exact absurd h1 (by decide)
        | cons x xr => exact ⟨x, xr, rfl⟩
      obtain ⟨x, i, j, _, _, hi, _⟩ := hg c (by rw [ec]; exact List.mem_cons_self ..)
      rw [z] at hi
      cases hi
    | cons n r => exact ⟨n, r, rfl⟩
  refine ⟨scrMap cs n ++ r.flatMap fun n => -1 :: scrMap cs n, by rw [p3, en]; rfl, ?_⟩
  rw [p3, en, List.flatMap_cons, List.length_append, List.length_cons] at hlen
  rw [List.length_append]
  omega
theorem ok_effect_of (D : Df K mg "effect_of" s_effect_of ["script"]) (C_named_items : Cl P w K mg base CX0 1 "named_items" ["script"] (Pn1 K (fun d => isScriptD d = true) fun d => .list ((namedI (tupD d)).map PyData.int)))
    (C_played : Cl P w K mg base CX0 1 "played" ["items", "script"] (PlayedS K)) (C_fenced : Cl P w K mg base CX0 1 "fenced" ["items"] (FencedS K)) (C_between_fences : Cl P w K mg base CX0 1 "between_fences" ["row"] (PartsS K)) (z_zip : mg "zip" = none) :
    Cl P w K mg base CX0 2 "effect_of" ["script"] (Pn1 K (fun d => isScriptD d = true) fun d => effD (tupD d)) :=
  Cl.of D sc_effect_of pn_len fun f cdv A outer s H vs Q E hr h => by
    obtain ⟨B, v, d, e, rfl, hv, hp, k⟩ := h
    obtain ⟨cs, rfl, c1, c200, hcs⟩ := script_of hp
    refine ⟨_, (pss_cons (ps_set (i := 1) sc_effect_of.nd rfl (.inl rfl) (pe_callC C_named_items (hr.mono (by decide)) (by rfl) pass0 (pa_cons (pv 0) pa_nil))) (pss_cons (ps_set (i := 2) sc_effect_of.nd rfl (.inl rfl) (pe_callC C_between_fences (hr.mono (by decide)) (by rfl) pass0 (pa_cons (pe_callC C_played (hr.mono (by decide)) (by rfl) pass0 (pa_cons (pe_callC C_fenced (hr.mono (by decide)) (by rfl) pass0 (pa_cons (pv 1) pa_nil)) (pa_cons (pv 0) pa_nil))) pa_nil))) (pss_one (ps_ret (pe_dc (own := [("item", 3), ("block", 4)]) (tt := tYes) (tk := (tVar 3)) (tv := (tVar 4)) (g := (gTup K 2 (gCons (gName 3) (gCons (gName 4) gNil)))) rfl sc_effect_of.nd (pi_zip (by rfl) z_zip (pa_cons (pv 1) (pa_cons (pv 2) pa_nil))) (blkOk_by (N := N_effect_of) (sc := defScope s_effect_of) (by decide +kernel)) (fun _ _ _ _ _ => (pg_tup rfl (pgs_cons (pg_name (i := 3) sc_effect_of.nd rfl (.inl rfl)) (pgs_cons (pg_name (i := 4) sc_effect_of.nd rfl (.inl rfl)) pgs_nil)))) (fun _ _ _ _ _ => pts_nil) (fun _ _ _ _ _ => (pv 3)) (fun _ _ _ _ _ => (pv 4))))))), ?_⟩
    obtain ⟨m1, ⟨R, m2, m3⟩, m4⟩ := effect_math c1 hcs
    refine q_set (K := K) (d := .list ((namedI cs).map PyData.int)) ((evN_call1 (g := fun d => .list ((namedI (tupD d)).map PyData.int)) (ev_var rfl hv) hp).ev) e fun v1 B1 H1 l1 hv1 => ?_
    have hv' := hv.mono l1.b
    have e1 : Ev K (tCall (FencedS K) [] E0 (tCons (tVar 1) tNil)) ((L2.start N_effect_of [v]).set 1 (some v1)) B1 H1 (.list ((fencedL (namedI cs)).map PyData.int)) :=
      ev_callU (ea_cons (ev_var rfl hv1) ea_nil) ⟨namedI cs, rfl, by have := named_len cs; omega⟩ fun x hx => hx _ rfl
    have e2 : Ev K (tCall (PlayedS K) [] E0 (tCons (tCall (FencedS K) [] E0 (tCons (tVar 1) tNil)) (tCons (tVar 0) tNil))) ((L2.start N_effect_of [v]).set 1 (some v1)) B1 H1 (.list ((playL cs (fencedL (namedI cs))).map PyData.int)) :=
      ev_callU (ea_cons e1 (ea_cons (ev_var rfl hv') ea_nil)) ⟨namedI cs, _, cs, .inl rfl, good_of hcs, m1, by rw [fence_len]; have := named_len cs; omega⟩ fun x hx => hx _ _ (.inl rfl)
    refine q_set (K := K) (d := .list ((namedI cs).map fun n => .tuple ((scrMap cs n).map PyData.int))) (ev_callU (ea_cons e2 ea_nil) ⟨R, by rw [m2], m3⟩ fun x hx => by
      rw [hx _ rfl, m4, List.map_map]
      rfl) l1.h fun v2 B2 H2 l2 hv2 => ?_
    refine evN_dcZip (K := K) (ns := namedI cs) (F := fun n => .tuple ((scrMap cs n).map PyData.int)) (ev_var rfl (hv1.mono l2.b)) (ev_var rfl hv2) (named_nd cs) (by have := named_len cs; omega) (fun _ _ => rfl) (fun _ _ => rfl) (fun _ _ => rfl) B2 H2 (Le.refl l2.h) _ fun v' B' H' l' hn hv' => ?_
    obtain ⟨a, ea, ha⟩ := hn
    exact k v' B' H' ((l1.trans l2).trans l') ⟨a, ea, (l1.trans l2).back ha⟩ hv'
/-- replaced: items by blocks -/
abbrev ReplS (K : PySem.W.Frag) : Sp := Pu K (fun ds => ∃ (xs ns : List Int) (m : Int → List Int), ds = [.tuple (xs.map PyData.int), effM ns fun n => .tuple ((m n).map PyData.int)] ∧ (xs.flatMap fun k => if k ∈ ns then m k else [k]).length ≤ 100000)
  fun ds d => ∃ (xs ns : List Int) (m : Int → List Int), ds = [.tuple (xs.map PyData.int), effM ns fun n => .tuple ((m n).map PyData.int)] ∧ d = .tuple ((xs.flatMap fun k => if k ∈ ns then m k else [k]).map PyData.int)
theorem ok_replaced (D : Df K mg "replaced" s_replaced ["items", "blocks"]) (z_tuple : mg "tuple" = none) : Cl P w K mg base CX0 1 "replaced" ["items", "blocks"] (ReplS K) :=
  Cl.pu D sc_replaced (fun ds h => by obtain ⟨_, _, _, h, _⟩ := h; rw [h]; rfl) fun f cdv A outer s H vs Q E B ds hr e hq hp k => by
    obtain ⟨xs, ns, m, rfl, hsz⟩ := hp
    have hu1 := hu_of hr
    obtain ⟨v0, v1, rfl, h0, h1⟩ := dq2 hq
    refine ⟨_, (pss_one (ps_ret (pe_callTy call_tuple_of (by rfl) z_tuple (by decide +kernel) (pa_cons (pe_lc2 (own := [("item", 2), ("part", 3)]) (vs1 := [3]) (tt := tYes) (tt1 := tYes) (te := (tVar 3)) (wi1 := (iTup K (tDGet2 (tVar 1) (tVar 2) (tTup (tCons (tVar 2) tNil))))) (g := (gName 2)) (g1 := (gName 3)) rfl sc_replaced.nd (pi_tup (pv 0)) (blkOk_by (N := N_replaced) (sc := defScope s_replaced) (by decide +kernel)) (by decide) (fun _ _ _ _ _ => (pg_name (i := 2) sc_replaced.nd rfl (.inl rfl))) (fun _ _ _ _ _ => pts_nil) (fun _ _ _ _ _ => (pi_tup (pe_dget2 hu1 (pv 1) (pv 2) (pe_tup (pa_cons (pv 2) pa_nil)) ⟨rfl, rfl, rfl, rfl⟩))) (fun _ _ _ _ _ => (pg_name (i := 3) sc_replaced.nd rfl (.inl rfl))) (fun _ _ _ _ _ => pts_nil) (fun _ _ _ _ _ => (pv 3))) pa_nil)))), ?_⟩
    have c := ev_lc2T (K := K) (σ := L2.start N_replaced [v0, v1]) (B := B) (H := H) (tl := tVar 0) (tl1 := tDGet2 (tVar 1) (tVar 2) (tTup (tCons (tVar 2) tNil))) (j0 := 2) (j1 := 3) (vs := [2, 3]) (vs1 := [3]) (xs := xs) (fun k => if k ∈ ns then m k else [k]) (ev_var rfl h0) hsz (fun k B1 H1 l hk => by
      have g := ev_dget2 (K := K) (σ := (wipe (L2.start N_replaced [v0, v1]) [2, 3]).set 2 (some (.int k))) (B := B1) (H := H1) (td := tVar 1) (ty := tVar 2) (tx := tTup (tCons (tVar 2) tNil)) (ns := ns) (F := fun n => .tuple ((m n).map PyData.int)) (k := k) (dd := .tuple [.int k]) (ev_var rfl (h1.mono l.b)) (ev_var rfl (.int k)) (ev_tup (ea_cons (ev_var rfl (.int k)) ea_nil) (size_ok (by show 1 ≤ 100000; decide)))
      have ee : (if k ∈ ns then PyData.tuple ((m k).map PyData.int) else .tuple [.int k]) = .tuple ((if k ∈ ns then m k else [k]).map PyData.int) := by split <;> rfl
      rw [ee] at g
      exact g)
    refine s_ret (K := K) (d := .tuple ((xs.flatMap fun k => if k ∈ ns then m k else [k]).map PyData.int)) (ev_cb (rr := rTupA K) (ea_cons c ea_nil) rc_tupL) e fun v B' H' l hv => k _ ⟨xs, ns, m, rfl, rfl⟩ v B' H' l hv
end
end K04

set_option maxRecDepth 100000
set_option maxHeartbeats 8000000
namespace K04
open PySem PySem.Spec PyProof.Rows L2 MA
section
variable {P : Program} {w : World} {K : PySem.W.Frag} {mg : PySem.Str → Option Value} {base : Heap}
theorem ok_require_item (D : Df K mg "require_item" s_require_item ["value"]) (C_is_item : Cl P w K mg base CX0 2 "is_item" ["value"] (Pf1 K (fun _ => True) fun d => .bool (isItemD d))) :
    Cl P w K mg base CX0 3 "require_item" ["value"] (Pf1 K (fun d => isItemD d = true) fun _ => .none) := by
  refine Cl.pu1 D sc_require_item fun f cdv A outer s H v Q E B d hr e hv hp k => ?_
  refine ⟨_, (pss_one (ps_if (pt_not (pt_val (pe_callC C_is_item (hr.mono (by decide)) (by rfl) pass0 (pa_cons (pv 0) pa_nil)))) (pss_one (ps_never)) pss_nil)), ?_⟩
  refine s_when (k := !isItemD d) (et_not (et_B (ev_call1 (ev_var rfl hv) trivial))) e (fun h => ?_) fun h B1 H1 l => k .non B1 H1 l .non
  rw [hp] at h
  cases h
theorem ok_blocks_of (D : Df K mg "blocks_of" s_blocks_of ["script"]) (C_require_script : Cl P w K mg base CX0 5 "require_script" ["value"] (Pf1 K (fun d => isScriptD d = true) fun _ => .none))
    (C_effect_of : Cl P w K mg base CX0 2 "effect_of" ["script"] (Pn1 K (fun d => isScriptD d = true) fun d => effD (tupD d))) :
    Cl P w K mg base CX0 6 "blocks_of" ["script"] (Pn1 K (fun d => isScriptD d = true) fun d => effD (tupD d)) :=
  Cl.of D sc_blocks_of pn_len fun f cdv A outer s H vs Q E hr h => by
    obtain ⟨B, v, d, e, rfl, hv, hp, k⟩ := h
    refine ⟨_, (pss_cons (ps_expr (pe_callC C_require_script (hr.mono (by decide)) (by rfl) pass0 (pa_cons (pv 0) pa_nil))) (pss_one (ps_ret (pe_callC C_effect_of (hr.mono (by decide)) (by rfl) pass0 (pa_cons (pv 0) pa_nil))))), ?_⟩
    refine q_drop (ev_call1 (ev_var rfl hv) hp) e fun B1 H1 l => ?_
    refine evN_call1 (g := fun d => effD (tupD d)) (Ev.up l (ev_var rfl hv)) hp B1 H1 (Le.refl l.h) _ fun v B' H' l2 hn hv => ?_
    obtain ⟨a, ea, ha⟩ := hn
    exact k v B' H' (l.trans l2) ⟨a, ea, l.back ha⟩ hv
theorem scr_repl {cs : List PyData} (h : ∀ c ∈ cs, isCommandD c = true) (r : Int) : (if r ∈ namedI cs then scrMap cs r else [r]) = scrMap cs r := by
  by_cases z : r ∈ namedI cs
  · rw [if_pos z]
  · rw [if_neg z, scrMap_other z (good_of h)]
theorem scr_len {cs : List PyData} (h1 : 1 ≤ cs.length) (h : ∀ c ∈ cs, isCommandD c = true) {r : Int} : (scrMap cs r).length ≤ 121 := by
  by_cases z : r ∈ namedI cs
  · obtain ⟨m1, _, _⟩ := effect_math h1 h
    obtain ⟨p1, p2⟩ := play_of cs (good_of h) m1
    have hl := p2.length_eq
    rw [p1, fence_len] at hl
    have hn := named_len cs
    have hm : r ∈ fencedL (namedI cs) := List.mem_flatMap.mpr ⟨r, z, by simp⟩
    have : ∀ {L : List Int} {m : Int → List Int}, r ∈ L → (m r).length ≤ (L.flatMap m).length := by
      intro L m
      induction L with
      | nil => intro h; cases h
      | cons a L ih =>
        intro h
        rw [List.flatMap_cons, List.length_append]
        rcases List.mem_cons.mp h with e | e
        · subst e; omega
        · have := ih e; omega
    have := this (m := scrMap cs) hm
    omega
  · rw [scrMap_other z (good_of h)]
    show 1 ≤ 121
    decide
theorem eff_injL {F F' : Int → PyData} : ∀ {ns ns' : List Int}, ns.map (fun n => (PyData.int n, F n)) = ns'.map (fun n => (PyData.int n, F' n)) → ns = ns' ∧ ∀ n ∈ ns, F n = F' n
  | [], [], _ => ⟨rfl, by simp⟩
  | [], _ :: _, h => by cases h
  | _ :: _, [], h => by cases h
  | n :: ns, n' :: ns', h => by
    have e1 : (PyData.int n, F n) = (PyData.int n', F' n') := (List.cons.inj h).1
    obtain ⟨r1, r2⟩ := eff_injL (List.cons.inj h).2
    have e2 := PyData.int.inj (Prod.mk.inj e1).1
    have e3 := (Prod.mk.inj e1).2
    subst e2 r1
    exact ⟨rfl, fun x hx => (List.mem_cons.mp hx).elim (fun e => by rw [e]; exact e3) (r2 x)⟩
theorem eff_inj {ns ns' : List Int} {F F' : Int → PyData} (h : effM ns F = effM ns' F') : ns = ns' ∧ ∀ n ∈ ns, F n = F' n := eff_injL (PyData.dict.inj h)
/-- replaced, called with a script's blocks -/
theorem ev_repl {σ : L2.St} {B H : Hp} {ta tb : TE} {E : XK} {cs : List PyData} {xs : List Int} (ha : Ev K ta σ B H (.tuple (xs.map PyData.int))) (hb : Ev K tb σ B H (effD cs)) (h1 : 1 ≤ cs.length) (h : ∀ c ∈ cs, isCommandD c = true) (hx : xs.length ≤ 500) :
    Ev K (tCall (ReplS K) [] E (tCons ta (tCons tb tNil))) σ B H (.tuple ((xs.flatMap (scrMap cs)).map PyData.int)) := by
  have e1 : ∀ ys : List Int, (ys.flatMap fun k => if k ∈ namedI cs then scrMap cs k else [k]) = ys.flatMap (scrMap cs) := fun ys => by
    congr 1
    funext k
    exact scr_repl h k
  have e2 : ∀ ys : List Int, (ys.flatMap (scrMap cs)).length ≤ ys.length * 121 := fun ys => by
    induction ys with
    | nil => exact Nat.le_refl _
    | cons y ys ih =>
      rw [List.flatMap_cons, List.length_append, List.length_cons, Nat.succ_mul]
      have := scr_len h1 h (r := y)
      omega
  refine ev_callU (ea_cons ha (ea_cons hb ea_nil)) ⟨xs, namedI cs, scrMap cs, rfl, ?_⟩ ?_
  · rw [e1]
    have := e2 xs
    omega
  · rintro x ⟨xs', ns', m', e, rfl⟩
    injection e with e3 e4
    injection e4 with e5 _
    have e6 := ints_inj (PyData.tuple.inj e3)
    obtain ⟨r1, r2⟩ := eff_inj e5
    subst e6 r1
    rw [← e1]
    refine congrArg (fun l : List Int => PyData.tuple (l.map PyData.int)) ?_
    congr 1
    funext k
    by_cases z : k ∈ namedI cs
    · rw [if_pos z, if_pos z]
      exact (ints_inj (PyData.tuple.inj (r2 k z))).symm
    · rw [if_neg z, if_neg z]
abbrev BlockS (K : PySem.W.Frag) : Sp := Pu K (fun ds => ∃ (cs : List PyData) (i : Int), ds = [.tuple cs, .int i] ∧ isScriptD (.tuple cs) = true ∧ 0 ≤ i ∧ i < 60) fun ds d => ∃ (cs : List PyData) (i : Int), ds = [.tuple cs, .int i] ∧ d = .tuple ((scrMap cs i).map PyData.int)
theorem ok_block_of (D : Df K mg "block_of" s_block_of ["script", "item"]) (C_require_script : Cl P w K mg base CX0 5 "require_script" ["value"] (Pf1 K (fun d => isScriptD d = true) fun _ => .none)) (C_require_item : Cl P w K mg base CX0 3 "require_item" ["value"] (Pf1 K (fun d => isItemD d = true) fun _ => .none))
    (C_effect_of : Cl P w K mg base CX0 2 "effect_of" ["script"] (Pn1 K (fun d => isScriptD d = true) fun d => effD (tupD d))) (C_replaced : Cl P w K mg base CX0 1 "replaced" ["items", "blocks"] (ReplS K)) :
    Cl P w K mg base CX0 6 "block_of" ["script", "item"] (BlockS K) :=
  Cl.pu D sc_block_of (fun ds h => by obtain ⟨_, _, h, _⟩ := h; rw [h]; rfl) fun f cdv A outer s H vs Q E B ds hr e hq hp k => by
    obtain ⟨cs, i, rfl, hs, i0, i1⟩ := hp
    obtain ⟨v0, v1, rfl, h0, h1⟩ := dq2 hq
    obtain ⟨cs', ecs, c1, _, hcs⟩ := script_of hs
    cases ecs
    refine ⟨_, (pss_cons (ps_expr (pe_callC C_require_script (hr.mono (by decide)) (by rfl) pass0 (pa_cons (pv 0) pa_nil))) (pss_cons (ps_expr (pe_callC C_require_item (hr.mono (by decide)) (by rfl) pass0 (pa_cons (pv 1) pa_nil))) (pss_one (ps_ret (pe_callC C_replaced (hr.mono (by decide)) (by rfl) pass0 (pa_cons (pe_tup (pa_cons (pv 1) pa_nil)) (pa_cons (pe_callC C_effect_of (hr.mono (by decide)) (by rfl) pass0 (pa_cons (pv 0) pa_nil)) pa_nil))))))), ?_⟩
    have hit : isItemD (.int i) = true := by simp [isItemD, i0, i1]
    refine q_drop (ev_call1 (ev_var rfl h0) hs) e fun B1 H1 l1 => q_drop (ev_call1 (ev_var rfl (h1.mono l1.b)) hit) l1.h fun B2 H2 l2 => ?_
    have l12 := l1.trans l2
    refine s_ret (K := K) (d := .tuple (([i].flatMap (scrMap cs)).map PyData.int)) (ev_repl (ev_tup (ea_cons (ev_var rfl (h1.mono l12.b)) ea_nil) (size_ok (by show 1 ≤ 100000; decide))) (evN_call1 (g := fun d => effD (tupD d)) (ev_var rfl (h0.mono l12.b)) hs).ev c1 hcs (by show 1 ≤ 500; decide)) l12.h fun v B' H' l hv => k _ ⟨cs, i, rfl, ?_⟩ v B' H' (l12.trans l) hv
    rw [List.flatMap_cons, List.flatMap_nil, List.append_nil]
end
end K04

set_option maxRecDepth 100000
set_option maxHeartbeats 8000000
namespace K04
open PySem PySem.Spec PyProof.Rows L2 MA
section
variable {P : Program} {w : World} {K : PySem.W.Frag} {mg : PySem.Str → Option Value} {base : Heap}
theorem cmd_len (b : Bool) (i j : Int) : ∀ R : List Int, (R.flatMap (cmdMap b i j)).length ≤ 2 * R.length
  | [] => Nat.le_refl _
  | r :: R => by
    rw [List.flatMap_cons, List.length_append, List.length_cons]
    have h1 := cmd_len b i j R
    have h2 : (cmdMap b i j r).length ≤ 2 := by
      unfold cmdMap
      split
      · decide
      · split
        · split <;> exact Nat.le_refl 2
        · show 1 ≤ 2
          decide
    omega
theorem cmd_parts {w : PySem.Str} (hw : w = "behind" ∨ w = "before") {i j r : Int} (hne : i ≠ j) :
    (if (decide (r = j) && decide (w = "before")) then [i] else []) ++ ((if !decide (r = i) then [r] else []) ++ (if (decide (r = j) && decide (w = "behind")) then [i] else [])) = cmdMap (decide (w = "behind")) i j r := by
  unfold cmdMap
  by_cases h1 : r = i
  · subst h1
    have h2 : r ≠ j := hne
    simp [h2]
  · by_cases h2 : r = j
    · subst h2
      have e1 : ¬ ("behind" : PySem.Str) = "before" := by decide
      have e2 : ¬ ("before" : PySem.Str) = "behind" := by decide
      rcases hw with rfl | rfl
      · simp [h1, e1]
      · simp [h1, e2]
    · simp [h1, h2]
theorem len_if (b : Bool) (k : Int) : (if b then [k] else [] : List Int).length ≤ 1 := by cases b <;> simp
theorem ok_law_moved (D : Df K mg "_law_moved" s__law_moved ["line", "command"]) (z_tuple : mg "tuple" = none) : Cl P w K mg base CX0 1 "_law_moved" ["line", "command"] (MovedS K) :=
  Cl.pu D sc__law_moved (fun ds h => by obtain ⟨_, _, _, _, h, _⟩ := h; rw [h]; rfl) fun f cdv A outer s H vs Q E B ds hr e hq hp k => by
    obtain ⟨R, wd, i, j, rfl, hw, hne, r1000⟩ := hp
    have hu := hr.units0
    obtain ⟨v0, v1, rfl, h0, h1⟩ := dq2 hq
    refine ⟨_, (pss_cons (ps_asg (pv 1) (pg_tup rfl (pgs_cons (pg_name (i := 2) sc__law_moved.nd rfl (.inl rfl)) (pgs_cons (pg_name (i := 3) sc__law_moved.nd rfl (.inl rfl)) (pgs_cons (pg_name (i := 4) sc__law_moved.nd rfl (.inl rfl)) pgs_nil))))) (pss_cons (ps_set (i := 5) sc__law_moved.nd rfl (.inl rfl) (pe_lst pa_nil)) (pss_cons (ps_for PassesOwn.never rfl (pi_tup (pv 0)) (pg_name (i := 6) sc__law_moved.nd rfl (.inl rfl)) (pss_cons (ps_if ((pw_and (pt_cmpR (op_eqA hu) (pv 6) (pv 4) (nomark _)) (pw_and1 (pt_cmpR (op_eqA hu) (pv 2) pe_str (nomark _))))).pt (pss_one (ps_expr (pe_bm PySem.F.plainAttrs_list PySem.F.slot_list_append PySem.F.type_list_append mt_append (pv 5) (pa_cons (pv 3) pa_nil)))) pss_nil) (pss_cons (ps_if (pt_cmpR (op_neA hu) (pv 6) (pv 3) (nomark _)) (pss_one (ps_expr (pe_bm PySem.F.plainAttrs_list PySem.F.slot_list_append PySem.F.type_list_append mt_append (pv 5) (pa_cons (pv 6) pa_nil)))) pss_nil) (pss_one (ps_if ((pw_and (pt_cmpR (op_eqA hu) (pv 6) (pv 4) (nomark _)) (pw_and1 (pt_cmpR (op_eqA hu) (pv 2) pe_str (nomark _))))).pt (pss_one (ps_expr (pe_bm PySem.F.plainAttrs_list PySem.F.slot_list_append PySem.F.type_list_append mt_append (pv 5) (pa_cons (pv 3) pa_nil)))) pss_nil))))) (pss_one (ps_ret (pe_callTy call_tuple_of (by rfl) z_tuple (by decide +kernel) (pa_cons (pv 5) pa_nil))))))), ?_⟩
    refine q_asg3 (K := K) (ev_var rfl h1) e fun y2 y3 y4 B1 H1 l1 h2 h3 h4 => ?_
    cases h3
    cases h4
    replace h0 := h0.mono l1.b
    cases h0 with
    | tup hs hqx =>
      rename_i a ys
      cases ofInts hqx
      refine ⟨Nat.zero_le _, fun p hp => ?_⟩
      have hB := none_of l1.h hp
      have l2 : Le [p] B1 H1 B1 (upd H1 p (.lst [])) := Le.made l1.h hp
      refine ⟨.ref a, rfl, a, rfl, ⟨_, Evl.ex_t l2.h hs⟩, for_tup (xs := R.map V.int) (fun t σ' H' => ∃ (Bi : Hp) (o6 : Option V), σ' = [some (.ref a), some v1, some y2, some (.int i), some (.int j), some (.ref p), o6] ∧ Le [p] B1 H1 Bi H' ∧ Bi p = none ∧ H' p = some (.lst (((R.take t).flatMap (cmdMap (decide (wd = "behind")) i j)).map V.int)))
        ⟨B1, none, rfl, l2, hB, upd_same⟩ (fun t σ' H' _ h => ?_) (fun t x σ' H' ht h => ?_) (fun σ' H' h => ?_)⟩
      · obtain ⟨Bi, _, _, l, _⟩ := h
        exact Evl.ex_t (l.b.trans l.h) hs
      · obtain ⟨Bi, o6, rfl, l, bp, hpl⟩ := h
        rw [List.getElem?_map] at ht
        cases hr : R[t]? with
        | none => rw [hr] at ht; cases ht
        | some r =>
          rw [hr] at ht
          cases ht
          have hl := cmd_len (decide (wd = "behind")) i j (R.take t)
          rw [List.length_take] at hl
          have w2 := h2.mono l.b
          refine q_ifApp (K := K) (p := p) (n := i) (k := decide (r = j) && decide (wd = "before")) (et_and (et_test (ev_op (ev_var rfl (.int r)) (ev_var rfl (.int j)) rv_eqI)) fun _ => et_test (ev_op (ev_var rfl w2) ev_s rv_eqS)) l.h (fun B' H' _ => ev_var rfl (.int i)) rfl bp hpl (by omega) fun B3 H3 l3 b3 hp3 => ?_
          refine q_ifApp (K := K) (p := p) (n := r) (k := !decide (r = i)) (et_test (ev_op (ev_var rfl (.int r)) (ev_var rfl (.int i)) rv_neI)) l3.h (fun B' H' _ => ev_var rfl (.int r)) rfl b3 hp3 (by rw [List.length_append]; have := len_if (decide (r = j) && decide (wd = "before")) i; omega) fun B4 H4 l4 b4 hp4 => ?_
          refine s_ifApp (K := K) (p := p) (n := i) (k := decide (r = j) && decide (wd = "behind")) (et_and (et_test (ev_op (ev_var rfl (.int r)) (ev_var rfl (.int j)) rv_eqI)) fun _ => et_test (ev_op (ev_var rfl ((w2.mono l3.b).mono l4.b)) ev_s rv_eqS)) l4.h (fun B' H' _ => ev_var rfl (.int i)) rfl b4 hp4 (by rw [List.length_append, List.length_append]; have := len_if (decide (r = j) && decide (wd = "before")) i; have := len_if (!decide (r = i)) r; omega) fun B5 H5 l5 b5 hp5 => ?_
          refine ⟨B5, _, rfl, ((l.trans l3).trans l4).trans l5, b5, ?_⟩
          rw [hp5, List.take_add_one, hr]
          have := cmd_parts hw (r := r) hne
          simp only [Option.toList, List.flatMap_append, List.flatMap_cons, List.flatMap_nil, List.append_nil, List.append_assoc, this]
      · obtain ⟨Bi, o6, rfl, l, bp, hpl⟩ := h
        rw [List.length_map, List.take_length] at hpl
        refine ⟨.ref p, rfl, p, _, rfl, .inl ⟨.inl (.inl hpl), fun t ht => ?_⟩⟩
        have lt : Le [] Bi H' (upd Bi t (.tup ((R.flatMap (cmdMap (decide (wd = "behind")) i j)).map V.int))) (upd H' t (.tup ((R.flatMap (cmdMap (decide (wd = "behind")) i j)).map V.int))) := Le.new l.h ht
        exact k _ ⟨R, wd, i, j, rfl, rfl⟩ (.ref t) _ _ (l1.trans ((l.local hp).trans lt)) (.tup (.inl (.inl upd_same)) (dqInts _))
theorem ok_law_done (D : Df K mg "_law_done" s__law_done ["line", "commands"]) (C__law_moved : Cl P w K mg base CX0 1 "_law_moved" ["line", "command"] (MovedS K)) : Cl P w K mg base CX0 2 "_law_done" ["line", "commands"] (DoneS K) :=
  Cl.pu D sc__law_done (fun ds h => by obtain ⟨_, _, _, h, _⟩ := h; rw [h]; rfl) fun f cdv A outer s H vs Q E B ds hr e hq hp k => by
    obtain ⟨xs, R, cs, rfl, cg, fit, r1000⟩ := hp
    obtain ⟨v0, v1, rfl, h0, h1⟩ := dq2 hq
    refine ⟨_, (pss_cons (ps_for PassesOwn.never rfl (pi_tup (pv 1)) (pg_name (i := 2) sc__law_done.nd rfl (.inl rfl)) (pss_one (ps_set (i := 0) sc__law_done.nd rfl (.inl rfl) (pe_callC C__law_moved (hr.mono (by decide)) (by rfl) pass0 (pa_cons (pv 0) (pa_cons (pv 2) pa_nil)))))) (pss_one (ps_ret (pv 0)))), ?_⟩
    refine q_forT (K := K) (xs := cs) (ev_var rfl h1) e (fun i σ' B' => ∃ u o2, σ' = [some u, some v1, o2] ∧ Dq K B' u (.tuple ((playL (cs.take i) R).map PyData.int))) (fun B1 H1 l => ⟨v0, none, rfl, h0.mono l.b⟩) ?_ ?_
    · rintro i c x σ' B' H' N l hc hx ⟨u, o2, rfl, hu⟩ hN
      have hst := playL_take (R := R) hc
      have hp2 := (play_of (cs.take i) (fun c hc => cg c (List.mem_of_mem_take hc)) fit).2
      have hfit : Fit xs (playL (cs.take i) R) := fun k hk => by rw [hp2.count_eq, fit k hk]
      have hlen : (playL (cs.take i) R).length ≤ 1000 := by rw [hp2.length_eq]; exact r1000
      have hstep := (step_of (cg c (List.mem_of_getElem? hc)) hfit).1
      generalize playL (cs.take i) R = Rk at hst hfit hlen hstep hu
      obtain ⟨wd, a, b, rfl, hw, _, _, hne⟩ := cg c (List.mem_of_getElem? hc)
      refine s_set (K := K) (d := .tuple ((Rk.flatMap (cmdMap (decide (wd = "behind")) a b)).map PyData.int)) (ev_callU (ea_cons (ev_var rfl hu) (ea_cons (ev_var rfl hx) ea_nil)) ⟨Rk, wd, a, b, rfl, hw, hne, hlen⟩ ?_) l.h fun v B2 H2 l2 hv => hN _ B2 H2 l2 ⟨v, _, rfl, ?_⟩
      · rintro x ⟨R', w', i', j', e1, rfl⟩
        injection e1 with e2 e3
        injection e3 with e4 _
        have e5 := ints_inj (PyData.tuple.inj e2)
        have e6 := PyData.tuple.inj e4
        injection e6 with e7 e8
        injection e8 with e9 e10
        injection e10 with e11 _
        cases e7
        cases e9
        cases e11
        rw [e5]
      · rw [hst, hstep]
        exact hv
    · rintro σ' B' H' l ⟨u, o2, rfl, hu⟩
      rw [List.take_length] at hu
      exact s_ret (K := K) (ev_var rfl hu) l.h fun v B2 H2 l2 hv => k _ ⟨R, cs, rfl, rfl⟩ v B2 H2 (l.trans l2) hv
end
end K04

set_option maxRecDepth 100000
set_option maxHeartbeats 8000000
namespace K04
open PySem PySem.Spec PyProof.Rows L2 MA
section
variable {P : Program} {w : World} {K : PySem.W.Frag} {mg : PySem.Str → Option Value} {base : Heap}
/-- the item whose block holds i, else i -/
def srcOf (cs : List PyData) (i : Int) : Int := ((namedI cs).find? fun n => decide (i ∈ scrMap cs n)).getD i
abbrev SourceS (K : PySem.W.Frag) : Sp := Pu K (fun ds => ∃ (cs : List PyData) (i : Int), ds = [.tuple cs, .int i] ∧ isScriptD (.tuple cs) = true ∧ 0 ≤ i ∧ i < 60) fun ds d => ∃ (cs : List PyData) (i : Int), ds = [.tuple cs, .int i] ∧ d = .int (srcOf cs i)
abbrev SrcsS (K : PySem.W.Frag) : Sp := Pf1 K (fun d => ∃ (ns : List Int) (m : Int → List Int), d = effM ns (fun n => .tuple ((m n).map PyData.int)) ∧ (ns.flatMap m).Nodup ∧ (ns.flatMap m).length ≤ 1000) srcD
theorem ok_sources_of (D : Df K mg "sources_of" s_sources_of ["effect"]) : Cl P w K mg base CX0 1 "sources_of" ["effect"] (SrcsS K) :=
  Cl.pu1 D sc_sources_of fun f cdv A outer s H v Q E B d hr e hv hp k => by
    obtain ⟨ns, m, rfl, h1, h2⟩ := hp
    refine ⟨_, (pss_one (ps_ret (pe_lock (pe_dc2 (own := [("source", 1), ("block", 2), ("item", 3)]) (vs1 := [3]) (wi1 := (iTup K (tVar 2))) (tk := (tVar 3)) (tv := (tVar 1)) (g := (gTup K 2 (gCons (gName 1) (gCons (gName 2) gNil)))) (g1 := (gName 3)) rfl sc_sources_of.nd (pi_items (pv 0)) (blkOk_by (N := N_sources_of) (sc := defScope s_sources_of) (by decide +kernel)) (by decide) (fun _ _ _ _ _ => (pg_tup rfl (pgs_cons (pg_name (i := 1) sc_sources_of.nd rfl (.inl rfl)) (pgs_cons (pg_name (i := 2) sc_sources_of.nd rfl (.inl rfl)) pgs_nil)))) (fun _ _ _ _ _ => (pi_tup (pv 2))) (fun _ _ _ _ _ => (pg_name (i := 3) sc_sources_of.nd rfl (.inl rfl))) (fun _ _ _ _ _ => (pv 3)) (fun _ _ _ _ _ => (pv 1)))))), ?_⟩
    refine s_ret (K := K) (d := dictI (srcP ns m)) (evN_srcs rfl hv e h1 h2 (fun _ _ => rfl) (fun _ _ => rfl) (fun _ _ _ => rfl) (fun _ _ _ => rfl) (fun _ _ _ => rfl)).ev e fun v' B' H' l hv' => k v' B' H' l ?_
    rw [srcD_eff]
    exact hv'
theorem blocks_perm {cs : List PyData} (h : ∀ c ∈ cs, isCommandD c = true) : ((namedI cs).flatMap (scrMap cs)).Perm (namedI cs) := by
  obtain ⟨p1, p2⟩ := play_of cs (good_of h) (R := namedI cs) fun k hk => count_nd (named_nd cs) hk
  rw [p1] at p2
  exact p2
theorem src_get (cs : List PyData) (i : Int) : (if i ∈ (srcP (namedI cs) (scrMap cs)).map (·.1) then PyData.int (((srcP (namedI cs) (scrMap cs)).lookup i).getD 0) else .int i) = .int (srcOf cs i) := by
  rw [srcP_lookup, srcP_fst]
  unfold srcOf
  by_cases z : i ∈ (namedI cs).flatMap (scrMap cs)
  · rw [if_pos z]
    obtain ⟨n, hn, hi⟩ := List.mem_flatMap.mp z
    cases q : (namedI cs).find? fun n => decide (i ∈ scrMap cs n) with
    | none => exact absurd (decide_eq_true hi) (List.find?_eq_none.mp q n hn)
    | some n => rfl
  · rw [if_neg z]
    have : ((namedI cs).find? fun n => decide (i ∈ scrMap cs n)) = none := List.find?_eq_none.mpr fun n hn => by
      simp only [decide_eq_true_eq]
      exact fun hi => z (List.mem_flatMap.mpr ⟨n, hn, hi⟩)
    rw [this]
    rfl
theorem ok_source_of (D : Df K mg "source_of" s_source_of ["script", "item"]) (C_require_script : Cl P w K mg base CX0 5 "require_script" ["value"] (Pf1 K (fun d => isScriptD d = true) fun _ => .none)) (C_require_item : Cl P w K mg base CX0 3 "require_item" ["value"] (Pf1 K (fun d => isItemD d = true) fun _ => .none))
    (C_effect_of : Cl P w K mg base CX0 2 "effect_of" ["script"] (Pn1 K (fun d => isScriptD d = true) fun d => effD (tupD d))) (C_sources_of : Cl P w K mg base CX0 1 "sources_of" ["effect"] (SrcsS K)) :
    Cl P w K mg base CX0 6 "source_of" ["script", "item"] (SourceS K) :=
  Cl.pu D sc_source_of (fun ds h => by obtain ⟨_, _, h, _⟩ := h; rw [h]; rfl) fun f cdv A outer s H vs Q E B ds hr e hq hp k => by
    obtain ⟨cs, i, rfl, hs, i0, i1⟩ := hp
    obtain ⟨v0, v1, rfl, h0, h1⟩ := dq2 hq
    have hu1 := hu_of hr
    obtain ⟨cs', ecs, c1, _, hcs⟩ := script_of hs
    cases ecs
    refine ⟨_, (pss_cons (ps_expr (pe_callC C_require_script (hr.mono (by decide)) (by rfl) pass0 (pa_cons (pv 0) pa_nil))) (pss_cons (ps_expr (pe_callC C_require_item (hr.mono (by decide)) (by rfl) pass0 (pa_cons (pv 1) pa_nil))) (pss_one (ps_ret (pe_dget2 hu1 (pe_callC C_sources_of (hr.mono (by decide)) (by rfl) pass0 (pa_cons (pe_callC C_effect_of (hr.mono (by decide)) (by rfl) pass0 (pa_cons (pv 0) pa_nil)) pa_nil)) (pv 1) (pv 1) ⟨rfl, rfl, rfl, rfl⟩))))), ?_⟩
    have hit : isItemD (.int i) = true := by simp [isItemD, i0, i1]
    refine q_drop (ev_call1 (ev_var rfl h0) hs) e fun B1 H1 l1 => q_drop (ev_call1 (ev_var rfl (h1.mono l1.b)) hit) l1.h fun B2 H2 l2 => ?_
    have l12 := l1.trans l2
    have pm := blocks_perm hcs
    have nd := pm.symm.nodup (named_nd cs)
    have hpre : ∃ (ns : List Int) (m : Int → List Int), effD cs = effM ns (fun n => .tuple ((m n).map PyData.int)) ∧ (ns.flatMap m).Nodup ∧ (ns.flatMap m).length ≤ 1000 := ⟨namedI cs, scrMap cs, rfl, nd, by rw [pm.length_eq]; have := named_len cs; omega⟩
    have ev := ev_call1 (K := K) (E := E0) (Pre := fun d => ∃ (ns : List Int) (m : Int → List Int), d = effM ns (fun n => .tuple ((m n).map PyData.int)) ∧ (ns.flatMap m).Nodup ∧ (ns.flatMap m).length ≤ 1000) (g := srcD) (σ := L2.start N_source_of [v0, v1]) (B := B2) (H := H2) (te := tCall (Pn1 K (fun d => isScriptD d = true) fun d => effD (tupD d)) [] E0 (tCons (tVar 0) tNil)) (d := effD cs) (evN_call1 (g := fun d => effD (tupD d)) (ev_var rfl (h0.mono l12.b)) hs).ev hpre
    rw [show srcD (effD cs) = dictI (srcP (namedI cs) (scrMap cs)) from srcD_eff _ _, dictI_eff (by rw [srcP_fst]; exact nd)] at ev
    have g := ev_dget2 (K := K) ev (ev_var (i := 1) rfl (h1.mono l12.b)) (ev_var (i := 1) rfl (h1.mono l12.b))
    rw [src_get] at g
    exact s_ret g l12.h fun v B5 H5 l5 hv => k _ ⟨cs, i, rfl, rfl⟩ v B5 H5 (l12.trans l5) hv
/-- the same blocks -/
def sameB (a b : List PyData) : Bool := ((List.range 60).map fun (k : Nat) => decide (scrMap a (k : Int) = scrMap b (k : Int))).all id
abbrev SameS (K : PySem.W.Frag) : Sp := Pu K (fun ds => ∃ (a b : List PyData), ds = [.tuple a, .tuple b] ∧ isScriptD (.tuple a) = true ∧ isScriptD (.tuple b) = true) fun ds d => ∃ (a b : List PyData), ds = [.tuple a, .tuple b] ∧ d = .bool (sameB a b)
theorem ok_same_blocks (D : Df K mg "same_blocks" s_same_blocks ["script", "other_script"]) (C_require_script : Cl P w K mg base CX0 5 "require_script" ["value"] (Pf1 K (fun d => isScriptD d = true) fun _ => .none))
    (C_effect_of : Cl P w K mg base CX0 2 "effect_of" ["script"] (Pn1 K (fun d => isScriptD d = true) fun d => effD (tupD d))) (C_replaced : Cl P w K mg base CX0 1 "replaced" ["items", "blocks"] (ReplS K))
    (z_all : mg "all" = none) (z_range : mg "range" = none) {t60 : Tok} (g_MOST_ITEMS : mg "MOST_ITEMS" = some (.int 60 t60)) :
    Cl P w K mg base CX0 6 "same_blocks" ["script", "other_script"] (SameS K) :=
  Cl.pu D sc_same_blocks (fun ds h => by obtain ⟨_, _, h, _⟩ := h; rw [h]; rfl) fun f cdv A outer s H vs Q E B ds hr e hq hp k => by
    obtain ⟨a, b, rfl, ha, hb⟩ := hp
    obtain ⟨v0, v1, rfl, h0, h1⟩ := dq2 hq
    have hu64 : (cxOf CX0 P w K mg base N_same_blocks "same_blocks" (defScope s_same_blocks) f cdv A outer s H E).nox.A.units + 64 < cLine := hr.units
    obtain ⟨a', ea, a1, _, hca⟩ := script_of ha
    cases ea
    obtain ⟨b', eb, b1, _, hcb⟩ := script_of hb
    cases eb
    refine ⟨_, (pss_cons (ps_expr (pe_callC C_require_script (hr.mono (by decide)) (by rfl) pass0 (pa_cons (pv 0) pa_nil))) (pss_cons (ps_expr (pe_callC C_require_script (hr.mono (by decide)) (by rfl) pass0 (pa_cons (pv 1) pa_nil))) (pss_cons (ps_set (i := 2) sc_same_blocks.nd rfl (.inr rfl) (pe_callC C_effect_of (hr.mono (by decide)) (by rfl) pass0 (pa_cons (pv 0) pa_nil))) (pss_cons (ps_set (i := 3) sc_same_blocks.nd rfl (.inr rfl) (pe_callC C_effect_of (hr.mono (by decide)) (by rfl) pass0 (pa_cons (pv 1) pa_nil))) (pss_one (ps_ret (pe_callB (cr_all rfl) (by rfl) z_all (by decide +kernel) (pa_cons (pe_lc (own := [("item", 4)]) (tt := tYes) (te := (tOp (rEqD K) (tCall _ [] E0 (tCons (tTup (tCons (tVar 4) tNil)) (tCons (tVar 2) tNil))) (tCall _ [] E0 (tCons (tTup (tCons (tVar 4) tNil)) (tCons (tVar 3) tNil))))) rfl sc_same_blocks.nd (pi_range1 (by rfl) z_range (pa_cons (pe_glob (v := .int (60)) (by rfl) g_MOST_ITEMS ⟨_, rfl⟩) pa_nil)) (blkOk_by (N := N_same_blocks) (sc := defScope s_same_blocks) (by decide +kernel)) (fun _ _ _ _ _ => (pg_name (i := 4) sc_same_blocks.nd rfl (.inl rfl))) (fun _ _ _ _ _ => pts_nil) (fun _ _ _ _ _ => (pe_cmpR (op_eqD hu64) (pe_callC C_replaced (hr.mono (by decide)) (by rfl) pass0 (pa_cons (pe_tup (pa_cons (pv 4) pa_nil)) (pa_cons (pv 2) pa_nil))) (pe_callC C_replaced (hr.mono (by decide)) (by rfl) pass0 (pa_cons (pe_tup (pa_cons (pv 4) pa_nil)) (pa_cons (pv 3) pa_nil))) (nomark _)))) pa_nil)))))))), ?_⟩
    refine q_drop (ev_call1 (ev_var rfl h0) ha) e fun B1 H1 l1 => q_drop (ev_call1 (ev_var rfl (h1.mono l1.b)) hb) l1.h fun B2 H2 l2 => ?_
    have l12 := l1.trans l2
    refine q_set (K := K) (d := effD a) (evN_call1 (g := fun d => effD (tupD d)) (ev_var rfl (h0.mono l12.b)) ha).ev l12.h fun v2 B3 H3 l3 hv2 => ?_
    refine q_set (K := K) (d := effD b) (evN_call1 (g := fun d => effD (tupD d)) (ev_var rfl (h1.mono (l12.trans l3).b)) hb).ev l3.h fun v3 B4 H4 l4 hv3 => ?_
    have hv2' := hv2.mono l4.b
    have l14 := (l12.trans l3).trans l4
    have one : ∀ {σ : L2.St} {B H : Hp} {r : Int}, σ[4]? = some (some (.int r)) → Ev K (tTup (tCons (tVar 4) tNil)) σ B H (.tuple ([r].map PyData.int)) := fun {σ B H r} h => ev_tup (ea_cons (ev_var h (.int r)) ea_nil) (size_ok (by show 1 ≤ 100000; decide))
    have c := ev_lcR (K := K) (σ := [some v0, some v1, some v2, some v3, none]) (B := B4) (H := H4) (tn := tC (.int 60)) (tt := tYes) (te := tOp (rEqD K) (tCall (ReplS K) [] E0 (tCons (tTup (tCons (tVar 4) tNil)) (tCons (tVar 2) tNil))) (tCall (ReplS K) [] E0 (tCons (tTup (tCons (tVar 4) tNil)) (tCons (tVar 3) tNil)))) (n := 60) (j := 4) (vs := [4]) (fun _ => true) (fun r => .bool (decide (scrMap a (r : Int) = scrMap b (r : Int)))) (ev_c (.int 60)) (by decide) (fun i B1 H1 l hi => et_yes) (fun i B1 H1 l hi _ => by
      have e1 := ev_repl (K := K) (σ := (wipe [some v0, some v1, some v2, some v3, none] [4]).set 4 (some (.int (i : Nat)))) (B := B1) (H := H1) (tb := tVar 2) (E := E0) (xs := [(i : Int)]) (one rfl) (ev_var rfl (hv2'.mono l.b)) a1 hca (by show 1 ≤ 500; decide)
      have e2 := ev_repl (K := K) (σ := (wipe [some v0, some v1, some v2, some v3, none] [4]).set 4 (some (.int (i : Nat)))) (B := B1) (H := H1) (tb := tVar 3) (E := E0) (xs := [(i : Int)]) (one rfl) (ev_var rfl (hv3.mono l.b)) b1 hcb (by show 1 ≤ 500; decide)
      rw [List.flatMap_cons, List.flatMap_nil, List.append_nil] at e1 e2
      exact ev_op e1 e2 rv_eqTD)
    refine s_ret (K := K) (d := .bool (sameB a b)) (ev_cb (rr := rAll K) (ea_cons c ea_nil) ?_) l4.h fun v B' H' l hv => k _ ⟨a, b, rfl, rfl⟩ v B' H' (l14.trans l) hv
    have r := rc_all (K := K) (bs := (List.range 60).map fun (k : Nat) => decide (scrMap a (k : Int) = scrMap b (k : Int)))
    rw [List.map_map] at r
    unfold picked
    rw [filter_true]
    exact r
end
end K04

set_option maxRecDepth 100000
set_option maxHeartbeats 8000000
namespace K04
open PySem PySem.Spec PyProof.Rows L2 MA
section
variable {P : Program} {w : World} {K : PySem.W.Frag} {mg : PySem.Str → Option Value} {base : Heap}
theorem blk_count {cs S : List PyData} (h1 : 1 ≤ cs.length) (h : ∀ c ∈ cs, isCommandD c = true) (hS : ∀ c ∈ S, c ∈ cs) {n k : Int} (hn : n ∈ namedI cs) (hk : k ∈ namedI cs) : (scrMap S n).count k ≤ 1 := by
  obtain ⟨fit, _, _⟩ := effect_math h1 h
  obtain ⟨p1, p2⟩ := play_of S (fun c hc => good_of h c (hS c hc)) fit
  have hc := p2.count_eq k
  rw [fit k hk, p1] at hc
  have hm : n ∈ fencedL (namedI cs) := List.mem_flatMap.mpr ⟨n, hn, by simp⟩
  have : ∀ {L : List Int} {m : Int → List Int}, n ∈ L → (m n).count k ≤ (L.flatMap m).count k := by
    intro L m
    induction L with
    | nil => intro h; cases h
    | cons a L ih =>
      intro h
      rw [List.flatMap_cons, List.count_append]
      rcases List.mem_cons.mp h with e | e
      · subst e; omega
      · have := ih e; omega
  have := this (m := scrMap S) hm
  omega
theorem blk_len {cs S : List PyData} (h1 : 1 ≤ cs.length) (h : ∀ c ∈ cs, isCommandD c = true) (hS : ∀ c ∈ S, c ∈ cs) {n : Int} (hn : n ∈ namedI cs) : (scrMap S n).length ≤ 200 := by
  obtain ⟨fit, _, _⟩ := effect_math h1 h
  obtain ⟨p1, p2⟩ := play_of S (fun c hc => good_of h c (hS c hc)) fit
  have hc := p2.length_eq
  rw [p1, fence_len] at hc
  have hl := named_len cs
  have hm : n ∈ fencedL (namedI cs) := List.mem_flatMap.mpr ⟨n, hn, by simp⟩
  have : ∀ {L : List Int} {m : Int → List Int}, n ∈ L → (m n).length ≤ (L.flatMap m).length := by
    intro L m
    induction L with
    | nil => intro h; cases h
    | cons a L ih =>
      intro h
      rw [List.flatMap_cons, List.length_append]
      rcases List.mem_cons.mp h with e | e
      · subst e; omega
      · have := ih e; omega
  have := this (m := scrMap S) hm
  omega
theorem ok_law_blocks (D : Df K mg "_law_blocks" s__law_blocks ["commands"]) (C__law_named : Cl P w K mg base CX0 1 "_law_named" ["commands"] (Pf1 K (fun d => isScriptD d = true) fun d => .list ((namedI (tupD d)).map PyData.int)))
    (z_dict : mg "dict" = none) (z_tuple : mg "tuple" = none) (z_int : mg "int" = none) :
    Cl P w K mg base CX0 2 "_law_blocks" ["commands"] (Pn1 K (fun d => isScriptD d = true) fun d => effD (tupD d)) :=
  Cl.of D sc__law_blocks pn_len fun f cdv A outer s H vs Q E hr h => by
    obtain ⟨B, v, d, e, rfl, hv, hp, k⟩ := h
    have hu := hr.units0
    have hu1 := hu_of hr
    obtain ⟨cs, rfl, c1, c200, hcs⟩ := script_of hp
    refine ⟨_, (pss_cons (ps_set (i := 1) sc__law_blocks.nd rfl (.inl rfl) (pe_callC C__law_named (hr.mono (by decide)) (by rfl) pass0 (pa_cons (pv 0) pa_nil))) (pss_cons (ps_set (i := 2) sc__law_blocks.nd rfl (.inl rfl) (pe_callTy (call_dictP rfl) (by rfl) z_dict (by decide +kernel) (pa_cons (pe_lc (own := [("item", 9)]) (tt := tYes) (te := (tTup (tCons (tVar 9) (tCons (tTup (tCons (tVar 9) tNil)) tNil)))) rfl sc__law_blocks.nd (pi_list (pv 1)) (blkOk_by (N := N__law_blocks) (sc := defScope s__law_blocks) (by decide +kernel)) (fun _ _ _ _ _ => (pg_name (i := 9) sc__law_blocks.nd rfl (.inl rfl))) (fun _ _ _ _ _ => pts_nil) (fun _ _ _ _ _ => (pe_tup (pa_cons (pv 9) (pa_cons (pe_tup (pa_cons (pv 9) pa_nil)) pa_nil))))) pa_nil))) (pss_cons (ps_for PassesOwn.never rfl (pi_tup (pv 0)) (pg_tup rfl (pgs_cons (pg_name (i := 3) sc__law_blocks.nd rfl (.inl rfl)) (pgs_cons (pg_name (i := 4) sc__law_blocks.nd rfl (.inr rfl)) (pgs_cons (pg_name (i := 5) sc__law_blocks.nd rfl (.inl rfl)) pgs_nil)))) (pss_one (ps_for PassesOwn.never rfl (pi_list (pv 1)) (pg_name (i := 6) sc__law_blocks.nd rfl (.inl rfl)) (pss_cons (ps_setLc (i := 7) (own := [("item", 9)]) (tt := (tTest (tOp (rNeA K) (tVar 9) (tVar 4)))) (te := (tVar 9)) rfl sc__law_blocks.nd rfl rfl (sw_true rfl rfl rfl (by decide +kernel)) (pi_tup (pe_dget hu1 (pv 2) (pv 6) (fun _ _ => rfl))) (blkOk_by (N := N__law_blocks) (sc := defScope s__law_blocks) (by decide +kernel)) (fun _ _ _ _ _ => (pg_name (i := 9) sc__law_blocks.nd rfl (.inl rfl))) (fun _ _ _ _ _ => (pts_one (pt_cmpR (op_neA hu) (pv 9) (pv 4) (nomark _)))) (fun _ _ _ _ _ => (pv 9))) (pss_cons (ps_if (pt_cmpR op_in_seq (pv 5) (pv 7) (by rfl)) (pss_cons (ps_set (i := 8) sc__law_blocks.nd rfl (.inl rfl) (pe_op op_addA (pe_bm PySem.F.plainAttrs_list PySem.F.slot_list_index PySem.F.type_list_index mt_index (pv 7) (pa_cons (pv 5) pa_nil)) (pe_callTy call_int1 (by rfl) z_int (by decide +kernel) (pa_cons (pe_cmpR (op_eqA hu) (pv 3) pe_str (nomark _)) pa_nil)))) (pss_one (ps_expr (pe_bm PySem.F.plainAttrs_list PySem.F.slot_list_insert PySem.F.type_list_insert mt_insert (pv 7) (pa_cons (pv 8) (pa_cons (pv 4) pa_nil)))))) pss_nil) (pss_one (ps_asg (pe_callTy call_tuple_of (by rfl) z_tuple (by decide +kernel) (pa_cons (pv 7) pa_nil)) (pg_sub (pv 2) (pv 6) (set_dict hu1))))))))) (pss_one (ps_ret (pv 2)))))), ?_⟩
    have hgood := good_of hcs
    have hnd := named_nd cs
    have hnl := named_len cs
    refine q_set (K := K) (d := .list ((namedI cs).map PyData.int)) (ev_call1 (g := fun d => .list ((namedI (tupD d)).map PyData.int)) (ev_var rfl hv) hp) e fun v1 B1 H1 l1 hv1 => ?_
    replace hv := hv.mono l1.b
    -- found = dict(..)
    have cmp := ev_compL (K := K) (σ := (L2.start N__law_blocks [v]).set 1 (some v1)) (B := B1) (H := H1) (te := tTup (tCons (tVar 9) (tCons (tTup (tCons (tVar 9) tNil)) tNil))) (tt := tYes) (tl := tVar 1) (j := 9) (vs := [9]) (xs := (namedI cs).map PyData.int) (fun _ => true) (fun d => .tuple [d, .tuple [d]]) (ev_var rfl hv1) (by rw [List.length_map]; omega) (fun d v B1 H1 l hd hv => et_yes) (fun d v B1 H1 l hd hv _ =>
      ev_tup (ea_cons (ev_var rfl hv) (ea_cons (ev_tup (ea_cons (ev_var rfl hv) ea_nil) (size_ok (by show 1 ≤ 100000; decide))) ea_nil)) (size_ok (by show 2 ≤ 100000; decide)))
    rw [filter_true, List.map_map] at cmp
    refine q_cb1 cmp l1.h fun u B2 H2 l2 hu2 => ?_
    cases hu2 with
    | lst hs2 hq2 =>
      rename_i a2 xs2
      obtain ⟨ps, ys, e1, e2, e3, e4⟩ := pairs_of (F := fun n => .tuple [.int n]) (ns := namedI cs) hq2
      subst e1
      have e4' : Paired (fun p kv => SqT K H2 p [kV kv.1, kv.2]) ps (kvsOf (namedI cs) ys) := by
        have : ∀ {ps : List Addr} {kvs : List (Key × V)}, Paired (fun p kv => SqT K B2 p [kV kv.1, kv.2]) ps kvs → Paired (fun p kv => SqT K H2 p [kV kv.1, kv.2]) ps kvs := by
          intro ps kvs h
          induction h with
          | nil => exact .nil
          | cons h _ ih => exact .cons (Evl.ex_t l2.h h) ih
        exact this e4
      refine ⟨a2, ps, kvsOf (namedI cs) ys, rfl, .inl (.inl (l2.h _ _ hs2)), e4', fun p hpn => ?_⟩
      rw [merge_new hnd (fun n hn => rfl) e2, List.nil_append]
      have hB := none_of l2.h hpn
      have l3 : Le [p] B2 H2 B2 (upd H2 p (.dK (kvsOf (namedI cs) ys))) := Le.made l2.h hpn
      replace hv := hv.mono l2.b
      replace hv1 := hv1.mono l2.b
      have hsl : 100000 < sizeLine := by rw [sizeLine_eq]; decide
      cases hv with
      | tup hs hqc =>
        rename_i a0 zs
        cases hv1 with
        | lst hs1 hq1 =>
          rename_i a1 xs1
          cases ofInts hq1
          refine ⟨.ref a0, rfl, a0, rfl, ⟨zs, Evl.ex_t l3.h hs⟩, for_tup (xs := zs) (fun i σ' H' => ∃ (Bi : Hp) (ys : List V) (o3 o4 o5 o6 o7 o8 o9 : Option V), σ' = [some (.ref a0), some (.ref a1), some (.ref p), o3, o4, o5, o6, o7, o8, o9] ∧ Le [p] B2 H2 Bi H' ∧ Bi p = none ∧ H' p = some (.dK (kvsOf (namedI cs) ys)) ∧ DqAll K Bi ys ((namedI cs).map fun n => .tuple ((scrMap (cs.take i) n).map PyData.int)))
            ⟨B2, ys, none, none, none, none, none, none, none, rfl, l3, hB, upd_same, e3⟩ (fun i σ' H' _ h => ?_) (fun i x σ' H' hi h => ?_) (fun σ' H' h => ?_)⟩
          · obtain ⟨Bi, _, _, _, _, _, _, _, _, _, l, _⟩ := h
            exact Evl.ex_t (l.b.trans l.h) hs
          · obtain ⟨Bi, ys, o3, o4, o5, o6, o7, o8, o9, rfl, l, bp, hpl, hys⟩ := h
            obtain ⟨c, hc, hx⟩ := hqc.get hi
            have hcm : c ∈ cs := List.mem_of_getElem? hc
            have hmap : ∀ n, scrMap (cs.take (i + 1)) n = (scrMap (cs.take i) n).flatMap (mapD c) := fun n => by
              rw [List.take_add_one, hc]
              show scrMap (cs.take i ++ [c]) n = _
              rw [scrMap_append]
              congr 1
              funext x
              show (mapD c x).flatMap (scrMap []) = _
              exact flatMap_self fun a _ => rfl
            have hcnt : ∀ n ∈ namedI cs, ∀ k ∈ namedI cs, (scrMap (cs.take i) n).count k ≤ 1 := fun n hn k hk => blk_count c1 hcs (fun c hc => List.mem_of_mem_take hc) hn hk
            have hblen : ∀ n ∈ namedI cs, (scrMap (cs.take i) n).length ≤ 200 := fun n hn => blk_len c1 hcs (fun c hc => List.mem_of_mem_take hc) hn
            obtain ⟨wd, a, b, rfl, hw, ha, hb, hne⟩ := hgood c hcm
            refine gt3 l.h (hx.mono l.b) fun y3 y4 y5 h3 h4 h5 => ?_
            cases h4
            cases h5
            refine ⟨.ref a1, rfl, a1, rfl, ⟨_, .inl (.inl (l.h _ _ (l.b _ _ hs1)))⟩, for_list (xs := (namedI cs).map V.int) (fun t σ2 Ht => ∃ (Bj : Hp) (ys : List V) (o6 o7 o8 o9 : Option V), σ2 = [some (.ref a0), some (.ref a1), some (.ref p), some y3, some (.int a), some (.int b), o6, o7, o8, o9] ∧ Le [p] Bi H' Bj Ht ∧ Bj p = none ∧ Ht p = some (.dK (kvsOf (namedI cs) ys)) ∧ DqAll K Bj ys (((namedI cs).take t).map (fun n => .tuple ((scrMap (cs.take (i + 1)) n).map PyData.int)) ++ ((namedI cs).drop t).map (fun n => .tuple ((scrMap (cs.take i) n).map PyData.int))))
              ⟨Bi, ys, o6, o7, o8, o9, rfl, Le.refl l.h, bp, hpl, hys⟩ (fun t σ2 Ht _ h => ?_) (fun t x σ2 Ht ht h => ?_) (fun σ2 Ht h => ?_)⟩
            · obtain ⟨Bj, _, _, _, _, _, _, lj, _⟩ := h
              exact .inl (.inl ((l.trans lj).h _ _ ((l.trans lj).b _ _ hs1)))
            · obtain ⟨Bj, ys, o6, o7, o8, o9, rfl, lj, bj, hpj, hyj⟩ := h
              rw [List.getElem?_map] at ht
              cases hn : (namedI cs)[t]? with
              | none => rw [hn] at ht; cases ht
              | some n =>
                rw [hn] at ht
                cases ht
                have hnm : n ∈ namedI cs := List.mem_of_getElem? hn
                have hlys : (namedI cs).length = ys.length := by
                  have := hyj.length
                  rw [List.length_append, List.length_map, List.length_map, List.length_take, List.length_drop] at this
                  omega
                obtain ⟨y, hy, hyd⟩ := hyj.get' (mix_get hn)
                have hL := hblen n hnm
                have w3 := h3.mono lj.b
                refine q_rowLc (K := K) (i := 7) (j := 9) (l := 4) (k := a) (xs := scrMap (cs.take i) n) (ev_dgetOwn (p := p) (n := n) rfl rfl hpj hnd hn hy hyd) lj.h (by omega) (fun _ => rfl) fun r Hr lr hr0 br hrr => ?_
                have hstep := blk_step (b := decide (wd = "behind")) (L := scrMap (cs.take i) n) (i := a) (j := b) (hcnt n hnm b hb) hne
                have hmn := hmap n
                have hRl : ((scrMap (cs.take i) n).filter fun x => !decide (x = a)).length ≤ 200 := Nat.le_trans (List.length_filter_le _ _) hL
                generalize hR1 : ((scrMap (cs.take i) n).filter fun x => !decide (x = a)) = R1 at hstep hRl hrr
                have hpr := lr.k p _ (by simp) hpj
                have hrp : r ≠ p := fun z => by rw [z, hpj] at hr0; cases hr0
                -- the row becomes the block
                have fin : ∀ (B6 H6 : Hp) (Rn : List Int) (q : Addr) (o8 o9 : Option V), Le [p] Bi H' B6 H6 → B6 p = none → H6 p = some (.dK (kvsOf (namedI cs) ys)) → DqAll K B6 ys (((namedI cs).take t).map (fun n => .tuple ((scrMap (cs.take (i + 1)) n).map PyData.int)) ++ ((namedI cs).drop t).map (fun n => .tuple ((scrMap (cs.take i) n).map PyData.int))) → H6 q = none →
                    Rn = scrMap (cs.take (i + 1)) n → ∃ (Bj : Hp) (ys' : List V) (o6 o7 o8' o9' : Option V), [some (.ref a0), some (.ref a1), some (.ref p), some y3, some (.int a), some (.int b), some (.int n), some (.ref r), o8, o9] = [some (.ref a0), some (.ref a1), some (.ref p), some y3, some (.int a), some (.int b), o6, o7, o8', o9'] ∧ Le [p] Bi H' Bj (upd (upd H6 q (.tup (Rn.map V.int))) p (.dK (putK (kvsOf (namedI cs) ys) (.inl n : Key) (.ref q)))) ∧ Bj p = none ∧ (upd (upd H6 q (.tup (Rn.map V.int))) p (.dK (putK (kvsOf (namedI cs) ys) (.inl n : Key) (.ref q)))) p = some (.dK (kvsOf (namedI cs) ys')) ∧
                      DqAll K Bj ys' (((namedI cs).take (t + 1)).map (fun n => .tuple ((scrMap (cs.take (i + 1)) n).map PyData.int)) ++ ((namedI cs).drop (t + 1)).map (fun n => .tuple ((scrMap (cs.take i) n).map PyData.int))) := fun B6 H6 Rn q o8 o9 l6 b6 h6 d6 hq eR => by
                  have hqp : q ≠ p := fun z => by rw [z, h6] at hq; cases hq
                  have ln := Le.new (M := []) (o := .tup (Rn.map V.int)) l6.h hq
                  have bn : (upd B6 q (.tup (Rn.map V.int))) p = none := by rw [upd_ne (Ne.symm hqp)]; exact b6
                  refine ⟨upd B6 q (.tup (Rn.map V.int)), ys.set t (.ref q), _, _, _, _, rfl, (l6.trans ln.any).trans (Le.put ln.h bn (by simp)), bn, by rw [upd_same, kvs_put hnd hlys hn], ?_⟩
                  have := DqAll.set (K := K) (v := .ref q) (d := .tuple ((scrMap (cs.take (i + 1)) n).map PyData.int)) (.tup (.inl (.inl upd_same)) (by rw [← eR]; exact dqInts _)) t (d6.mono ln.b)
                  rw [mix_set (F := fun n => .tuple ((scrMap (cs.take (i + 1)) n).map PyData.int)) hn] at this
                  exact this
                have hkl : ∀ ys : List V, (kvsOf (namedI cs) ys).length < sizeLine := fun ys => by
                  unfold MA.kvsOf
                  rw [List.length_map, List.length_zip]
                  omega
                have hev : Ev K (tOp (rIn K false) (tVar 5) (tVar 7)) [some (.ref a0), some (.ref a1), some (.ref p), some y3, some (.int a), some (.int b), some (.int n), some (.ref r), o8, o9] Bj Hr (.bool (decide (b ∈ R1))) :=
                  ev_own (p := r) (vs := R1.map V.int) (cs := R1.map PyData.int) (fun B1 hB1 hd _ _ => ev_op (ev_var rfl (.int b)) (ev_var rfl hd) rv_inLI) (dqInts _) lr.h br hrr sc_bool
                refine q_when (k := decide (b ∈ R1)) (et_test hev) lr.h (fun hk B5 H5 l5 => ?_) fun hk B5 H5 l5 => ?_
                · have hbR : b ∈ R1 := of_decide_eq_true hk
                  rw [if_pos hbR] at hstep
                  have h5r := l5.k r _ (by simp) hrr
                  have b5r := l5.own hrr br
                  have h5p := l5.k p _ (by simp) hpr
                  have b5p := l5.own hpr bj
                  refine q_idxAdd (K := K) (x := if decide (wd = "behind") then 1 else 0) rfl rfl h5r hbR (ev_cb (rr := rInt1) (ea_cons (ev_op (ev_var rfl (w3.mono l5.b)) ev_s rv_eqS) ea_nil) rc_int1) l5.h fun B6 H6 l6 => ?_
                  have h6r := l6.k r _ (by simp) h5r
                  have b6r := l6.own h5r b5r
                  have h6p := l6.k p _ (by simp) h5p
                  have b6p := l6.own h5p b5p
                  have en : ((R1.idxOf b : Nat) : Int) + (if decide (wd = "behind") = true then 1 else 0) = ((R1.idxOf b + (if decide (wd = "behind") = true then 1 else 0) : Nat) : Int) := by split <;> simp
                  rw [en]
                  have hil : R1.idxOf b + (if decide (wd = "behind") = true then 1 else 0) ≤ 300 := by
                    have := List.idxOf_lt_length_of_mem hbR
                    split <;> omega
                  refine ⟨.ref r, rfl, .inl ⟨rfl, _, .inl (.inl h6r)⟩, _, rfl, .int a, rfl, r, _, _, .int a, rfl, rfl, h6r, by rw [List.length_map]; omega, by omega, by omega, ?_⟩
                  rw [Int.toNat_natCast]
                  have ec : (R1.map V.int).take (R1.idxOf b + (if decide (wd = "behind") = true then 1 else 0)) ++ [V.int a] ++ (R1.map V.int).drop (R1.idxOf b + (if decide (wd = "behind") = true then 1 else 0)) = (scrMap (cs.take (i + 1)) n).map V.int := by
                    rw [hmn]
                    show _ = (((scrMap (cs.take i) n).flatMap (cmdMap (decide (wd = "behind")) a b)).map V.int)
                    rw [← hstep]
                    simp only [List.map_append, List.map_take, List.map_drop, List.map_cons, List.map_nil]
                  rw [ec]
                  have lall : Le [p] Bi H' B6 H6 := lj.trans ((lr.trans (l5.trans l6)).any)
                  have lput : Le [r, p] B6 H6 B6 (upd H6 r (.lst ((scrMap (cs.take (i + 1)) n).map V.int))) := Le.put lall.h b6r (by simp)
                  have h7p : (upd H6 r (.lst ((scrMap (cs.take (i + 1)) n).map V.int))) p = some (.dK (kvsOf (namedI cs) ys)) := by rw [upd_ne (Ne.symm hrp)]; exact h6p
                  refine ⟨.ref r, rfl, r, _, rfl, .inl ⟨.inl (.inl upd_same), fun q hq => ?_⟩⟩
                  have hqp : q ≠ p := fun z => by rw [z, h7p] at hq; cases hq
                  refine ⟨.ref p, rfl, .int n, rfl, p, _, rfl, .inl ⟨kvsOf (namedI cs) ys, .inl n, by rw [upd_ne (Ne.symm hqp)]; exact h7p, rfl, hkl ys, rfl⟩, ?_⟩
                  exact fin B6 _ (scrMap (cs.take (i + 1)) n) q _ _ (((lall.wk (by simp)).trans lput).local (lj.back hr0)) b6p h7p ((hyj.mono l5.b).mono l6.b) hq rfl
                · have hbR : b ∉ R1 := of_decide_eq_false hk
                  rw [if_neg hbR] at hstep
                  have h5r := l5.k r _ (by simp) hrr
                  have h5p := l5.k p _ (by simp) hpr
                  have b5p := l5.own hpr bj
                  refine ⟨.ref r, rfl, r, _, rfl, .inl ⟨.inl (.inl h5r), fun q hq => ?_⟩⟩
                  have hqp : q ≠ p := fun z => by rw [z, h5p] at hq; cases hq
                  refine ⟨.ref p, rfl, .int n, rfl, p, _, rfl, .inl ⟨kvsOf (namedI cs) ys, .inl n, by rw [upd_ne (Ne.symm hqp)]; exact h5p, rfl, hkl ys, rfl⟩, ?_⟩
                  exact fin B5 _ R1 q _ _ (lj.trans ((lr.trans l5).any)) b5p h5p (hyj.mono l5.b) hq (by rw [hmn]; exact hstep)
            · obtain ⟨Bj, ys, o6, o7, o8, o9, rfl, lj, bj, hpj, hyj⟩ := h
              rw [List.length_map, List.take_length, List.drop_length, List.map_nil, List.append_nil] at hyj
              exact ⟨Bj, ys, _, _, _, _, _, _, _, rfl, l.trans lj, bj, hpj, hyj⟩
          · obtain ⟨Bi, ys, o3, o4, o5, o6, o7, o8, o9, rfl, l, bp, hpl, hys⟩ := h
            rw [hqc.length, List.take_length] at hys
            have hl : (namedI cs).length = ys.length := by have := hys.length; rwa [List.length_map, eq_comm] at this
            have lg := (l.give hpn bp hpl).local hpn
            have hd := Dq.dct (K := K) (H := upd Bi p (.dK (kvsOf (namedI cs) ys))) (a := p) (kvs := kvsOf (namedI cs) ys) (ds := (namedI cs).map fun n => .tuple ((scrMap cs n).map PyData.int)) upd_same (by rw [kvs_snd hl]; exact hys.mono (Evl.Ex.new bp))
            rw [kvs_zip hl] at hd
            refine ⟨.ref p, rfl, ?_⟩
            exact k (.ref p) _ H' ((l1.trans l2).trans lg) ⟨p, rfl, (l1.trans l2).back hpn⟩ hd
end
end K04

set_option maxRecDepth 100000
set_option maxHeartbeats 8000000
namespace K04
open PySem PySem.Spec PyProof.Rows L2 MA
section
variable {P : Program} {w : World} {K : PySem.W.Frag} {mg : PySem.Str → Option Value} {base : Heap}
/-- the items that are not among these -/
def rest60 (ns : List Int) : List Int := ((List.range 60).filter fun (k : Nat) => !decide ((k : Int) ∈ ns)).map fun (k : Nat) => (k : Int)
theorem rest60_eq (ns : List Int) : picked (fun k => !decide ((k : Int) ∈ ns)) (fun k => PyData.int (k : Int)) 60 = (rest60 ns).map PyData.int := by
  unfold picked rest60
  rw [List.map_map]
  rfl
def restN (cs : List PyData) (r : Nat) : List Int := (rest60 (namedI cs)).take r
theorem restN_len (cs : List PyData) (r : Nat) : (restN cs r).length ≤ 60 := by
  unfold restN rest60
  rw [List.length_take, List.length_map]
  have := List.length_filter_le (fun (k : Nat) => !decide ((k : Int) ∈ namedI cs)) (List.range 60)
  rw [List.length_range] at this
  omega
theorem rest_out {ns : List Int} {k : Int} (h : k ∈ rest60 ns) : k ∉ ns := by
  unfold rest60 at h
  obtain ⟨j, hj, rfl⟩ := List.mem_map.mp h
  simpa using (List.mem_filter.mp hj).2
theorem count_left (cs : List PyData) (r : Nat) {k : Int} (hk : k ∈ namedI cs) : (namedI cs ++ restN cs r).count k = 1 := by
  have z : (restN cs r).count k = 0 := List.count_eq_zero.mpr fun m => rest_out (List.mem_of_mem_take m) hk
  rw [List.count_append, count_nd (named_nd cs) hk, z]
theorem parts_of {B : Hp} {m : Int → List Int} : ∀ {xs : List V} {ks : List Int}, DqAll K B xs (ks.map fun k => .list ((m k).map PyData.int)) → ∃ ps : List (Addr × List V), xs = ps.map (fun p => V.ref p.1) ∧ (∀ p ∈ ps, B p.1 = some (.lst p.2)) ∧ ps.flatMap (·.2) = (ks.flatMap m).map V.int ∧ ps.length = ks.length
  | _, [], h => by
    cases h
    exact ⟨[], rfl, by simp, rfl, rfl⟩
  | _, k :: ks, h => by
    cases h with
    | cons h q =>
      obtain ⟨ps, e1, e2, e3, e4⟩ := parts_of q
      cases h with
      | lst hs hq =>
        rename_i a ys
        cases ofInts hq
        refine ⟨(a, (m k).map V.int) :: ps, by rw [e1]; rfl, fun p hp => ?_, ?_, by simp [e4]⟩
        · rcases List.mem_cons.mp hp with z | z
          · subst z; exact hs
          · exact e2 p z
        · rw [List.flatMap_cons, List.flatMap_cons, e3, List.map_append]
abbrev LinesRS (K : PySem.W.Frag) : Sp := Bg K (fun ds => ∃ cs : List PyData, ds = [.tuple cs, effD cs] ∧ isScriptD (.tuple cs) = true) fun _ d => d = .bool true
theorem ok_law_lines_right (D : Df K mg "_law_lines_right" s__law_lines_right ["bag", "commands", "due"]) (C__law_pick : Cl P w K mg base CX0 1 "_law_pick" ["bag", "many"] (PickS K)) (C__law_named : Cl P w K mg base CX0 1 "_law_named" ["commands"] (Pf1 K (fun d => isScriptD d = true) fun d => .list ((namedI (tupD d)).map PyData.int)))
    (C__law_done : Cl P w K mg base CX0 2 "_law_done" ["line", "commands"] (DoneS K)) (z_range : mg "range" = none) (z_len : mg "len" = none) (z_list : mg "list" = none) (z_tuple : mg "tuple" = none) (z_sum : mg "sum" = none) :
    Cl P w K mg base CX0 3 "_law_lines_right" ["bag", "commands", "due"] (LinesRS K) :=
  Cl.of D sc__law_lines_right (bg_len (n := 2) fun ds h => by obtain ⟨cs, rfl, _⟩ := h; rfl) fun f cdv A outer s H vs Q E hr h => by
    obtain ⟨g, us, B, ds, rfl, e, hb, hq, ⟨cs, rfl, hs⟩, q⟩ := h
    obtain ⟨v1, v2, rfl, hv1, hv2⟩ := dq2 hq
    have hu := hr.units0
    have hu1 := hu_of hr
    have hu64 : (cxOf CX0 P w K mg base N__law_lines_right "_law_lines_right" (defScope s__law_lines_right) f cdv A outer s H E).nox.A.units + 64 < cLine := hr.units
    refine ⟨_, (pss_cons (ps_set (i := 3) sc__law_lines_right.nd rfl (.inr rfl) (pe_callC C__law_named (hr.mono (by decide)) (by rfl) pass0 (pa_cons (pv 1) pa_nil))) (pss_cons (ps_for PassesOwn.never rfl (pi_range1 (by rfl) z_range (pa_cons pe_int pa_nil)) (pg_name (i := 4) sc__law_lines_right.nd rfl (.inl rfl)) (pss_cons (ps_set (i := 5) sc__law_lines_right.nd rfl (.inr rfl) (pe_op op_addA (pv 3) (pe_slice sl_any (pe_lc (own := [("item", 8)]) (tt := (tTest (tOp (rIn K true) (tVar 8) (tVar 3)))) (te := (tVar 8)) rfl sc__law_lines_right.nd (pi_range1 (by rfl) z_range (pa_cons pe_int pa_nil)) (blkOk_by (N := N__law_lines_right) (sc := defScope s__law_lines_right) (by decide +kernel)) (fun _ _ _ _ _ => (pg_name (i := 8) sc__law_lines_right.nd rfl (.inl rfl))) (fun _ _ _ _ _ => (pts_one (pt_cmpR op_notIn_seq (pv 8) (pv 3) (by rfl)))) (fun _ _ _ _ _ => (pv 8))) po_none (po_some (pe_callC C__law_pick (hr.mono (by decide)) (by rfl) pass0 (pa_cons (pv 0) (pa_cons pe_int pa_nil))))))) (pss_cons (ps_setLc (i := 6) (own := [("k", 9)]) (tt := tYes) (te := (tBM K "list" rPopAt (tVar 5) (tCons (tCall _ [] E0 (tCons (tVar 0) (tCons (tCB (rLenA K) (tCons (tVar 5) tNil)) tNil))) tNil))) rfl sc__law_lines_right.nd rfl rfl (sw_true rfl rfl rfl (by decide +kernel)) (pi_range1 (by rfl) z_range (pa_cons (pe_callB call_len_seq (by rfl) z_len PySem.boot_len (pa_cons (pv 5) pa_nil)) pa_nil)) (blkOk_by (N := N__law_lines_right) (sc := defScope s__law_lines_right) (by decide +kernel)) (fun _ _ _ _ _ => (pg_name (i := 9) sc__law_lines_right.nd rfl (.inl rfl))) (fun _ _ _ _ _ => pts_nil) (fun _ _ _ _ _ => (pe_bm PySem.F.plainAttrs_list PySem.F.slot_list_pop PySem.F.type_list_pop mt_popAt (pv 5) (pa_cons (pe_callC C__law_pick (hr.mono (by decide)) (by rfl) pass0 (pa_cons (pv 0) (pa_cons (pe_callB call_len_seq (by rfl) z_len PySem.boot_len (pa_cons (pv 5) pa_nil)) pa_nil))) pa_nil)))) (pss_cons (ps_setLc (i := 7) (own := [("item", 8)]) (tt := tYes) (te := (tCB (rLstA K) (tCons (tDGet2 (tVar 2) (tVar 8) (tTup (tCons (tVar 8) tNil))) tNil))) rfl sc__law_lines_right.nd rfl rfl (sw_true rfl rfl rfl (by decide +kernel)) (pi_list (pv 6)) (blkOk_by (N := N__law_lines_right) (sc := defScope s__law_lines_right) (by decide +kernel)) (fun _ _ _ _ _ => (pg_name (i := 8) sc__law_lines_right.nd rfl (.inl rfl))) (fun _ _ _ _ _ => pts_nil) (fun _ _ _ _ _ => (pe_callTy call_list_of (by rfl) z_list (by decide +kernel) (pa_cons (pe_dget2 hu1 (pv 2) (pv 8) (pe_tup (pa_cons (pv 8) pa_nil)) ⟨rfl, rfl, rfl, rfl⟩) pa_nil)))) (pss_one (ps_if (pt_cmpR (op_neD hu64) (pe_callTy call_list_of (by rfl) z_list (by decide +kernel) (pa_cons (pe_callC C__law_done (hr.mono (by decide)) (by rfl) pass0 (pa_cons (pe_callTy call_tuple_of (by rfl) z_tuple (by decide +kernel) (pa_cons (pv 6) pa_nil)) (pa_cons (pv 1) pa_nil))) pa_nil)) (pe_callB (cr_sumL rfl) (by rfl) z_sum (by decide +kernel) (pa_cons (pv 7) (pa_cons (pe_lst pa_nil) pa_nil))) (nomark _)) (pss_one (ps_ret pe_bl)) pss_nil)))))) (pss_one (ps_ret pe_bl)))), ?_⟩
    obtain ⟨cs', ecs, c1, c200, hcs⟩ := script_of hs
    cases ecs
    have hgood := good_of hcs
    have hnl := named_len cs
    refine q_set (K := K) (d := .list ((namedI cs).map PyData.int)) (ev_call1 (g := fun d => .list ((namedI (tupD d)).map PyData.int)) (ev_var rfl hv1) hs) e fun v3 B1 H1 l1 hv3 => ?_
    have b1 := hb.pure l1
    refine ⟨4, rfl, by decide, by decide, for_range (lo := 0) (n := 4) (fun i σ' H' => ∃ (B' : Hp) (o4 o5 o6 o7 o8 o9 : Option V), σ' = [some (.ref g), some v1, some v2, some v3, o4, o5, o6, o7, o8, o9] ∧ Le [g] B1 H1 B' H' ∧ Bag g B' H') ?_ ?_ ?_⟩
    · exact ⟨B1, none, none, none, none, none, none, rfl, Le.refl l1.h, b1⟩
    · rintro i σ' H' hi ⟨Bi, o4, o5, o6, o7, o8, o9, rfl, li, bi⟩
      have h1 := (hv1.mono l1.b).mono li.b
      have h2 := (hv2.mono l1.b).mono li.b
      have h3 := hv3.mono li.b
      -- left
      have hsl : Eb K g (tSl (rSlAny K) (tLc (iRng1 (tCons (tC (.int 60)) tNil)) (gName 8) (tTest (tOp (rIn K true) (tVar 8) (tVar 3))) (tVar 8) [8]) tNoPart (tPart (tCall (PickS K) [] E0 (tCons (tVar 0) (tCons (tC (.int 5)) tNil))))) [some (.ref g), some v1, some v2, some v3, some (.int (0 + (i : Nat))), o5, o6, o7, o8, o9] Bi H' (fun d => ∃ r : Nat, d = .list ((restN cs r).map PyData.int)) :=
        eb_sl (R1 := (· = .list ((rest60 (namedI cs)).map PyData.int))) (P := fun i => 0 ≤ i) (eb_of fun B3 H3 l => by
            have c := ev_lcR (K := K) (σ := [some (.ref g), some v1, some v2, some v3, some (.int (0 + (i : Nat))), o5, o6, o7, o8, o9]) (B := B3) (H := H3) (tn := tC (.int 60)) (tt := tTest (tOp (rIn K true) (tVar 8) (tVar 3))) (te := tVar 8) (n := 60) (j := 8) (vs := [8]) (fun k => !decide ((k : Int) ∈ namedI cs)) (fun k => .int (k : Int)) (ev_c (.int 60)) (by decide)
              (fun k B4 H4 l4 hk => et_test (ev_op (ev_var rfl (.int _)) (ev_var rfl (h3.mono (l.trans l4.any).b)) rv_notInLI)) (fun k B4 H4 l4 hk _ => ev_var rfl (.int _))
            rw [rest60_eq] at c
            exact c)
          ((eb_pickC (n := 5) rfl (fun _ _ _ => ev_i) (by decide) (by decide)).imp fun d h => by
            obtain ⟨r, rfl, r0, _⟩ := h
            exact ⟨r, rfl, r0⟩) fun x r hx hr => by
              subst hx
              exact ⟨_, rs_L, r.toNat, by rw [cut_ints _ hr]; rfl⟩
      refine ⟨v3, rfl, hsl Bi H' (Le.refl li.h) bi _ fun d v B2 H2 r l2 b2 hv => ?_⟩
      obtain ⟨r, rfl⟩ := r
      have h3' := h3.mono l2.b
      cases h3' with
      | lst hs3 hq3 =>
        rename_i a3 ys3
        cases ofInts hq3
        cases hv with
        | lst hs4 hq4 =>
          rename_i a4 ys4
          cases ofInts hq4
          have hlen : (namedI cs).length + (restN cs r).length ≤ 120 := by
            have := restN_len cs r
            omega
          refine .inr (.inr (.inr ⟨a3, a4, _, _, rfl, rfl, l2.h _ _ hs3, l2.h _ _ hs4, size_ok (by rw [List.length_map, List.length_map]; omega), fun p hp => ?_⟩))
          have hpB := none_of l2.h hp
          have hpg := b2.ne hp
          rw [← List.map_append]
          have exs : ∃ xs, xs = namedI cs ++ restN cs r := ⟨_, rfl⟩
          obtain ⟨xs, exs⟩ := exs
          rw [← exs]
          have lp : Le [p, g] B2 H2 B2 (upd H2 p (.lst (xs.map V.int))) := Le.made l2.h hp
          have bp : Bag g B2 (upd H2 p (.lst (xs.map V.int))) := by
            obtain ⟨x, y, z, hg⟩ := b2.has
            exact ⟨b2.own, x, y, z, by rw [upd_ne (Ne.symm hpg)]; exact hg⟩
          have xl : xs.length ≤ 120 := by rw [exs, List.length_append]; exact hlen
          have hta : EvA K (tCons (tCB (rLenA K) (tCons (tVar 5) tNil)) tNil) [some (.ref g), some v1, some v2, some (.ref a3), some (.int (0 + (i : Nat))), some (.ref p), o6, o7, o8, o9] B2 (upd H2 p (.lst (xs.map V.int))) [.int xs.length] :=
            ea_cons (fun B4 H4 l4 Q q => ⟨.ref p, rfl, p, xs.map V.int, rfl, .inl (.inl (.inl (l4.k p _ (by simp) upd_same))), by rw [List.length_map]; exact q _ B4 H4 (Le.refl l4.h) (.int _)⟩) ea_nil
          -- line
          refine q_asgR (b_pops (K := K) (n := xs.length) (xs := xs) (σ := [some (.ref g), some v1, some v2, some (.ref a3), some (.int (0 + (i : Nat))), some (.ref p), o6, o7, o8, o9]) (j := 9) (a := 5) (b := 0) (vs := [9]) hta lp.h bp hpB upd_same hpg (fun _ => rfl) (fun _ => rfl) (fun _ => rfl) (by omega) (by omega) (by omega) fun acc rest v6 B3 H3 pm ln l3 b3 hv6 => ?_)
          have hrest : rest = [] := by
            have := pm.length_eq
            rw [List.length_append] at this
            exact List.length_eq_zero_iff.mp (by omega)
          subst hrest
          rw [List.append_nil] at pm
          have lg : Le [g] B2 H2 B3 H3 := (lp.trans l3).local hp
          have l23 := l2.trans lg
          have h1' := h1.mono l23.b
          have h2' := h2.mono l23.b
          have fit : Fit (namedI cs) acc := fun k hk => by
            rw [pm.count_eq, exs]
            exact count_left cs r hk
          have al : acc.length ≤ 120 := by rw [pm.length_eq]; exact xl
          -- parts
          refine q_set (K := K) (d := .list (acc.map fun k => .list ((scrMap cs k).map PyData.int))) ?_ l3.h fun v7 B4 H4 l4 hv7 => ?_
          · have c := ev_compL (K := K) (σ := [some (.ref g), some v1, some v2, some (.ref a3), some (.int (0 + (i : Nat))), some (.ref p), some v6, o7, o8, o9]) (B := B3) (H := H3) (tl := tVar 6) (te := tCB (rLstA K) (tCons (tDGet2 (tVar 2) (tVar 8) (tTup (tCons (tVar 8) tNil))) tNil)) (tt := tYes) (j := 8) (vs := [8]) (fun _ => true) (fun d => .list ((scrMap cs (itemI d)).map PyData.int)) (ev_var rfl hv6) (by rw [List.length_map]; omega) (fun _ _ _ _ _ _ _ => et_yes)
              (fun d v B5 H5 l5 hd hv _ => by
                obtain ⟨k, hk, rfl⟩ := List.mem_map.mp hd
                cases hv
                have g := ev_dget2 (K := K) (td := tVar 2) (ty := tVar 8) (tx := tTup (tCons (tVar 8) tNil)) (σ := (wipe [some (.ref g), some v1, some v2, some (.ref a3), some (.int (0 + (i : Nat))), some (.ref p), some v6, o7, o8, o9] [8]).set 8 (some (.int k))) (B := B5) (H := H5) (ns := namedI cs) (F := fun n => .tuple ((scrMap cs n).map PyData.int)) (k := k) (dd := .tuple [.int k]) (ev_var rfl (h2'.mono l5.b)) (ev_var rfl (.int k)) (ev_tup (ea_cons (ev_var rfl (.int k)) ea_nil) (size_ok (by show 1 ≤ 100000; decide)))
                have ee : (if k ∈ namedI cs then PyData.tuple ((scrMap cs k).map PyData.int) else .tuple [.int k]) = .tuple ((scrMap cs k).map PyData.int) := by
                  by_cases z : k ∈ namedI cs
                  · rw [if_pos z]
                  · rw [if_neg z, scrMap_other z hgood]; rfl
                rw [ee] at g
                exact ev_cb (rr := rLstA K) (ea_cons g ea_nil) rc_lstT)
            rw [filter_true, List.map_map] at c
            exact c
          -- the two
          have hv6' := hv6.mono l4.b
          have h1'' := h1'.mono l4.b
          have e1 : Ev K (tCall (DoneS K) [] E0 (tCons (tCB (rTupA K) (tCons (tVar 6) tNil)) (tCons (tVar 1) tNil))) [some (.ref g), some v1, some v2, some (.ref a3), some (.int (0 + (i : Nat))), some (.ref p), some v6, some v7, o8, o9] B4 H4 (.tuple ((playL cs acc).map PyData.int)) :=
            ev_callU (ea_cons (ev_cb (rr := rTupA K) (ea_cons (ev_var rfl hv6') ea_nil) rc_tupL) (ea_cons (ev_var rfl h1'') ea_nil)) ⟨namedI cs, acc, cs, rfl, hgood, fit, by omega⟩ fun x hx => by
              obtain ⟨R', cs', e1, rfl⟩ := hx
              have z1 := (List.cons.inj e1).1
              have z2 := (List.cons.inj (List.cons.inj e1).2).1
              rw [← ints_inj (PyData.tuple.inj z1), ← PyData.tuple.inj z2]
          have hplay : playL cs acc = acc.flatMap (scrMap cs) := (play_of cs hgood fit).1
          have hpl : (playL cs acc).length = acc.length := (play_of cs hgood fit).2.length_eq
          have ane : acc ≠ [] := fun z => by
            have hz := fit
            rw [z] at hz
            obtain ⟨c, hc⟩ := List.exists_mem_of_length_pos (show 0 < cs.length by omega)
            obtain ⟨x, a, b, _, _, ha, _⟩ := hgood c hc
            have := hz a ha
            simp at this
          have e2 : Ev K (tCB rSumL (tCons (tVar 7) (tCons (tLst tNil) tNil))) [some (.ref g), some v1, some v2, some (.ref a3), some (.int (0 + (i : Nat))), some (.ref p), some v6, some v7, o8, o9] B4 H4 (.list ((playL cs acc).map PyData.int)) := fun B5 H5 l5 Q q => by
            refine ⟨v7, rfl, Nat.zero_le _, fun c hc => ?_⟩
            have lc : Le [] B5 H5 (upd B5 c (.lst [])) (upd H5 c (.lst [])) := Le.new l5.h hc
            have hv7' := (hv7.mono l5.b).mono lc.b
            cases hv7' with
            | lst hs7 hq7 =>
              rename_i a7 ys7
              obtain ⟨ps, rfl, p1, p2, p3⟩ := parts_of hq7
              refine ⟨a7, c, ps, rfl, lc.h _ _ hs7, upd_same, fun p hp => lc.h _ _ (p1 p hp), fun z => ane ?_, ?_, fun pn hpn => ?_⟩
              · rw [z] at p3
                exact List.length_eq_zero_iff.mp p3.symm
              · rw [p2, List.length_map, ← hplay, hpl]
                omega
              · rw [p2, ← hplay]
                exact q (.ref pn) _ _ (lc.trans (Le.new lc.h hpn)) (.lst upd_same (dqInts _))
          refine s_when (k := false) (by
            have c := et_test (ev_op (ev_cb (rr := rLstA K) (ea_cons e1 ea_nil) rc_lstT) e2 rv_neLD)
            rw [decide_eq_true rfl] at c
            exact c) l4.h (fun z => by cases z) fun _ B5 H5 l5 => ?_
          exact ⟨B5, _, _, _, _, _, _, rfl, ((li.trans l23).trans l4.any).trans l5.any, (b3.pure l4).pure l5⟩
    · rintro σ' H' ⟨Bi, o4, o5, o6, o7, o8, o9, rfl, li, bi⟩
      exact b_ret (K := K) (g := g) (σ := [some (.ref g), some v1, some v2, some v3, o4, o5, o6, o7, o8, o9]) (D := { nx := fun _ H' => Q .non H', rt := Q }) (eb_of fun _ _ _ => ev_b) li.h bi fun d v B2 H2 r l2 b2 hv => q d r v B2 H2 ((l1.any.trans li).trans l2) b2 hv
end
end K04

set_option maxRecDepth 100000
set_option maxHeartbeats 8000000
namespace K04
open PySem PySem.Spec PyProof.Rows L2 MA
section
variable {P : Program} {w : World} {K : PySem.W.Frag} {mg : PySem.Str → Option Value} {base : Heap}
theorem good_cmdO {xs : List Int} (hx : ∀ k ∈ xs, 0 ≤ k ∧ k < 60) {c : PyData} (h : GoodC xs c) : isCommandD c = true := by
  obtain ⟨x, i, j, rfl, hw, hi, hj, hne⟩ := h
  have h1 := hx i hi
  have h2 := hx j hj
  simp only [isCommandD, isItemD, itemI, isWord, Bool.and_eq_true, Bool.or_eq_true, decide_eq_true_eq, Bool.not_eq_true', decide_eq_false_iff_not]
  exact ⟨hw, h1, h2, decide_eq_false hne⟩
theorem good_scrO {cs : List PyData} (h1 : 1 ≤ cs.length) (h2 : cs.length ≤ 200) (h : ∀ c ∈ cs, isCommandD c = true) : isScriptD (.tuple cs) = true := by
  simp only [isScriptD, Bool.and_eq_true, decide_eq_true_eq, List.all_eq_true]
  exact ⟨⟨h1, h2⟩, h⟩
theorem q_whenO {K : PySem.W.Frag} {p : Addr} {σ : L2.St} {B H : Hp} {t : TT} {D : Ends} {tu tz : TS} {k : Bool} (I : L2.St → Hp → Hp → Prop) (h : EvT t σ B H k) (e : Ex B H) (h1 : k = true → ∀ B' H', Le [] B H B' H' → ∀ N : L2.St → Hp → Prop, (∀ σ' B2 H2, Le [p] B' H' B2 H2 → I σ' B2 H2 → N σ' H2) → tu { D with nx := N } σ H') (h2 : k = false → ∀ B' H', Le [] B H B' H' → I σ B' H')
    (hz : ∀ σ' B' H', Le [p] B H B' H' → I σ' B' H' → tz D σ' H') : tSeq (tIfS t tu tNext) tz D σ H :=
  q_when h e (fun hk B' H' l => h1 hk B' H' l _ fun σ' B2 H2 l2 i => hz σ' B2 H2 (l.any.trans l2) i) fun hk B' H' l => hz σ B' H' l.any (h2 hk B' H' l)
theorem q_par {σ : L2.St} {H : Hp} {D : Ends} {tz : TS} {ta : TA} {i j : Nat} (h : ta σ H fun vs H1 => ∃ v w, vs = [v, w] ∧ tz D ((σ.set i (some v)).set j (some w)) H1) : tSeq (tPar i j ta) tz D σ H := h
structure RowO (K : PySem.W.Frag) (p : Addr) (a n : Nat) (B H : Hp) : Prop where
  own : B p = none
  has : ∃ (ws : List V) (cs : List PyData), H p = some (.lst ws) ∧ DqAll K B ws cs ∧ (∀ c ∈ cs, isCommandD c = true) ∧ a < cs.length ∧ cs.length ≤ n
theorem RowO.pure {p : Addr} {a n : Nat} {B H B' H' : Hp} (r : RowO K p a n B H) (l : Le [] B H B' H') : RowO K p a n B' H' := by
  obtain ⟨ws, cs, h1, h2, h3⟩ := r.has
  exact ⟨l.own h1 r.own, ws, cs, l.k p _ (by simp) h1, h2.mono l.b, h3⟩
theorem RowO.mono {p : Addr} {a n m : Nat} {B H : Hp} (r : RowO K p a n B H) (h : n ≤ m) : RowO K p a m B H := by
  obtain ⟨ws, cs, h1, h2, h3, h4, h5⟩ := r.has
  exact ⟨r.own, ws, cs, h1, h2, h3, h4, by omega⟩
theorem bag_other {g p : Addr} {B H B' H' : Hp} (b : Bag g B H) (l : Le [p] B H B' H') (hne : p ≠ g) : Bag g B' H' := by
  obtain ⟨x, y, z, h⟩ := b.has
  exact ⟨l.own h b.own, x, y, z, l.k g _ (by simp [Ne.symm hne]) h⟩
theorem r_if {t : TT} {ta tb : TE} {D : Ends} {σ : L2.St} {H : Hp} (h : t σ H fun c H1 => if c = true then ta σ H1 D.rt else tb σ H1 D.rt) : tRet (tIf t ta tb) D σ H := h
theorem DqAll.eraseIdx {B : Hp} : ∀ {vs : List V} {ds : List PyData} (j : Nat), DqAll K B vs ds → DqAll K B (vs.eraseIdx j) (ds.eraseIdx j)
  | _, _, _, .nil => .nil
  | _, _, 0, .cons _ q => q
  | _, _, j + 1, .cons h q => .cons h (DqAll.eraseIdx j q)
theorem at_pos {α : Type} {xs : List α} {a : Int} {y : α} (h0 : 0 ≤ a) (h : xs[a.toNat]? = some y) : atI xs a = some y ∧ ixN xs.length a = some a.toNat := by
  have hlt := (List.getElem?_eq_some_iff.mp h).1
  have e : ixN xs.length a = some a.toNat := by
    unfold ixN
    rw [if_pos h0, if_pos (by omega)]
  exact ⟨by unfold atI; rw [e]; exact h, e⟩
theorem ins_mem {α : Type} {l : List α} {n : Nat} {x y : α} (h : y ∈ l.take n ++ [x] ++ l.drop n) : y = x ∨ y ∈ l := by
  rcases List.mem_append.mp h with h | h
  · rcases List.mem_append.mp h with h | h
    · exact .inr (List.mem_of_mem_take h)
    · exact .inl (List.mem_singleton.mp h)
  · exact .inr (List.mem_of_mem_drop h)
theorem ins_len {α : Type} (l : List α) (n : Nat) (x : α) : (l.take n ++ [x] ++ l.drop n).length = l.length + 1 := by
  rw [List.length_append, List.length_append, List.length_take, List.length_drop, List.length_singleton]
  omega
abbrev OtherS (K : PySem.W.Frag) : Sp := Bg K (fun ds => ∃ cs : List PyData, ds = [.tuple cs] ∧ isScriptD (.tuple cs) = true) fun _ d => isScriptD d = true
theorem ok_law_other (D : Df K mg "_law_other" s__law_other ["bag", "commands"]) (C__law_pick : Cl P w K mg base CX0 1 "_law_pick" ["bag", "many"] (PickS K)) (C__law_items : Cl P w K mg base CX0 2 "_law_items" ["bag", "many"] (ItemsS K)) (C__law_script : Cl P w K mg base CX0 2 "_law_script" ["bag", "items", "most"] (ScriptS K))
    (z_len : mg "len" = none) (z_list : mg "list" = none) (z_tuple : mg "tuple" = none) (z_int : mg "int" = none) :
    Cl P w K mg base CX0 3 "_law_other" ["bag", "commands"] (OtherS K) :=
  Cl.of D sc__law_other (bg_len (n := 1) fun ds h => by obtain ⟨cs, rfl, _⟩ := h; rfl) fun f cdv A outer s H vs Q E hr h => by
    obtain ⟨g, us, B, ds, rfl, e, hb, hq, ⟨cs, rfl, hs⟩, q⟩ := h
    obtain ⟨v1, rfl, hv1⟩ := dq1 hq
    have hu := hr.units0
    obtain ⟨cs', ecs, c1, c200, hcs⟩ := script_of hs
    cases ecs
    refine ⟨_, (pss_cons (ps_set (i := 2) sc__law_other.nd rfl (.inl rfl) (pe_callC C__law_pick (hr.mono (by decide)) (by rfl) pass0 (pa_cons (pv 0) (pa_cons pe_int pa_nil)))) (pss_cons (ps_par (i := 3) (j := 4) rfl sc__law_other.nd rfl rfl (by decide) rfl rfl (pa_cons (pe_callC C__law_pick (hr.mono (by decide)) (by rfl) pass0 (pa_cons (pv 0) (pa_cons (pe_callB call_len_seq (by rfl) z_len PySem.boot_len (pa_cons (pv 1) pa_nil)) pa_nil))) (pa_cons (pe_callC C__law_pick (hr.mono (by decide)) (by rfl) pass0 (pa_cons (pv 0) (pa_cons (pe_callB call_len_seq (by rfl) z_len PySem.boot_len (pa_cons (pv 1) pa_nil)) pa_nil))) pa_nil)) rfl) (pss_cons (ps_set (i := 5) sc__law_other.nd rfl (.inl rfl) (pe_callTy call_list_of (by rfl) z_list (by decide +kernel) (pa_cons (pv 1) pa_nil))) (pss_cons (ps_asg (pe_ix ix_seq (pv 5) (pv 3) (fun _ _ => rfl)) (pg_tup rfl (pgs_cons (pg_name (i := 6) sc__law_other.nd rfl (.inl rfl)) (pgs_cons (pg_name (i := 7) sc__law_other.nd rfl (.inl rfl)) (pgs_cons (pg_name (i := 8) sc__law_other.nd rfl (.inl rfl)) pgs_nil))))) (pss_cons (ps_if (pt_cmpR (op_eqA hu) (pv 2) pe_int (nomark _)) (pss_one (ps_expr (pe_bm PySem.F.plainAttrs_list PySem.F.slot_list_insert PySem.F.type_list_insert mt_insert (pv 5) (pa_cons (pv 4) (pa_cons (pe_bm PySem.F.plainAttrs_list PySem.F.slot_list_pop PySem.F.type_list_pop mt_popAt (pv 5) (pa_cons (pv 3) pa_nil)) pa_nil))))) pss_nil) (pss_cons (ps_if (pt_cmpR (op_eqA hu) (pv 2) pe_int (nomark _)) (pss_one (ps_asg (pe_tup (pa_cons (pv 6) (pa_cons (pv 8) (pa_cons (pv 7) pa_nil)))) (pg_sub (pv 5) (pv 3) set_list))) pss_nil) (pss_cons (ps_if (pt_cmpR (op_eqA hu) (pv 2) pe_int (nomark _)) (pss_one (ps_expr (pe_bm PySem.F.plainAttrs_list PySem.F.slot_list_insert PySem.F.type_list_insert mt_insert (pv 5) (pa_cons (pv 3) (pa_cons (pe_ix ix_seq (pv 5) (pv 3) (fun _ _ => rfl)) pa_nil))))) pss_nil) (pss_cons (ps_if (pt_cmpR (op_eqA hu) (pv 2) pe_int (nomark _)) (pss_one (ps_asg (pe_tup (pa_cons (pe_ix ix_seq (pe_lst (pa_cons pe_str (pa_cons pe_str pa_nil))) (pe_callTy call_int1 (by rfl) z_int (by decide +kernel) (pa_cons (pe_cmpR (op_eqA hu) (pv 6) pe_str (nomark _)) pa_nil)) (fun _ _ => rfl)) (pa_cons (pv 7) (pa_cons (pv 8) pa_nil)))) (pg_sub (pv 5) (pv 3) set_list))) pss_nil) (pss_one (ps_ret (pe_ifExp (pt_cmpR op_lt (pv 2) pe_int (nomark _)) (pe_callTy call_tuple_of (by rfl) z_tuple (by decide +kernel) (pa_cons (pe_slice sl_any (pv 5) po_none (po_some pe_int)) pa_nil)) (pe_callC C__law_script (hr.mono (by decide)) (by rfl) pass0 (pa_cons (pv 0) (pa_cons (pe_callC C__law_items (hr.mono (by decide)) (by rfl) pass0 (pa_cons (pv 0) (pa_cons pe_int pa_nil))) (pa_cons pe_int pa_nil))))))))))))))), ?_⟩
    have lenC : ∀ {σ : L2.St} {B' H' : Hp}, σ[1]? = some (some v1) → Dq K B' v1 (.tuple cs) → Ev K (tCB (rLenA K) (tCons (tVar 1) tNil)) σ B' H' (.int cs.length) := fun h1 h2 => ev_cb (ea_cons (ev_var h1 h2) ea_nil) rc_lenT
    -- way
    refine b_set (K := K) (g := g) (R := RI fun r => 0 ≤ r ∧ r < 5) (eb_pickC (n := 5) rfl (fun _ _ _ => ev_i) (by decide) (by decide)) e hb ?_
    rintro d vw B1 H1 ⟨way, rfl, _, _⟩ l1 b1 hvw
    cases hvw
    have h11 := hv1.mono l1.b
    -- at, k
    have hds : EbA K g (tCons (tCall (PickS K) [] E0 (tCons (tVar 0) (tCons (tCB (rLenA K) (tCons (tVar 1) tNil)) tNil))) (tCons (tCall (PickS K) [] E0 (tCons (tVar 0) (tCons (tCB (rLenA K) (tCons (tVar 1) tNil)) tNil))) tNil)) [some (.ref g), some v1, some (.int way), none, none, none, none, none, none] B1 H1 _ :=
      eba_cons (R1 := RI fun r => 0 ≤ r ∧ r < cs.length) (eb_pickC (n := cs.length) rfl (fun B3 H3 l => lenC rfl (h11.mono l.b)) (by omega) (by omega)) (eba_cons (R1 := RI fun r => 0 ≤ r ∧ r < cs.length) (eb_pickC (n := cs.length) rfl (fun B3 H3 l => lenC rfl (h11.mono l.b)) (by omega) (by omega)) eba_nil)
    refine q_par (hds B1 H1 (Le.refl l1.h) b1 _ fun ds vs B2 H2 r l2 b2 hdv => ?_)
    obtain ⟨_, _, rfl, ⟨a, rfl, a0, a1⟩, _, _, rfl, ⟨k, rfl, k0, k1⟩, rfl⟩ := r
    obtain ⟨va, vk, rfl, ha, hk⟩ := dq2 hdv
    cases ha
    cases hk
    refine ⟨_, _, rfl, ?_⟩
    have l12 := l1.trans l2
    have h12 := hv1.mono l12.b
    -- row
    cases h12 with
    | tup ht hqt =>
      rename_i t1 ws0
      refine q_asgR ⟨.ref t1, rfl, t1, ws0, rfl, .inr (Evl.ex_t l2.h ht), fun p hp => ?_⟩
      have hpB := none_of l2.h hp
      have hpg := b2.ne hp
      have l3 : Le [p, g] B2 H2 B2 (upd H2 p (.lst ws0)) := Le.made l2.h hp
      have b3 : Bag g B2 (upd H2 p (.lst ws0)) := by
        obtain ⟨x, y, z, hg⟩ := b2.has
        exact ⟨b2.own, x, y, z, by rw [upd_ne (Ne.symm hpg)]; exact hg⟩
      have hat : a.toNat < cs.length := by omega
      have hwl := hqt.length
      obtain ⟨y, hy⟩ : ∃ y, ws0[a.toNat]? = some y := ⟨_, List.getElem?_eq_getElem (by omega)⟩
      obtain ⟨c, hc, hyc⟩ := hqt.get hy
      obtain ⟨wd, i, j, rfl, hw, i0, i1, j0, j1, hij⟩ := command_of (hcs c (List.mem_of_getElem? hc))
      refine ⟨.ref p, rfl, .int a, rfl, .inl ⟨p, ws0, a, y, rfl, rfl, .inl (.inl upd_same), (at_pos a0 hy).1, ?_⟩⟩
      refine gt3 (K := K) (a := .str wd) (b := .int i) (c := .int j) l3.h hyc fun x6 x7 x8 h6 h7 h8 => ?_
      cases h6
      cases h7
      cases h8
      have hsl : 100000 < sizeLine := by rw [sizeLine_eq]; decide
      have cmdOk : ∀ {w2 : PySem.Str} {i2 j2 : Int}, (w2 = "behind" ∨ w2 = "before") → 0 ≤ i2 ∧ i2 < 60 → 0 ≤ j2 ∧ j2 < 60 → i2 ≠ j2 → isCommandD (.tuple [.str w2, .int i2, .int j2]) = true := fun h1 h2 h3 h4 =>
        good_cmdO (xs := [_, _]) (fun k hk => by
          simp only [List.mem_cons, List.mem_nil_iff, or_false] at hk
          rcases hk with rfl | rfl
          · exact h2
          · exact h3) ⟨_, _, _, rfl, h1, by simp, by simp, h4⟩
      have R0 : RowO K p a.toNat 200 B2 (upd H2 p (.lst ws0)) := ⟨hpB, ws0, cs, upd_same, hqt, hcs, hat, by omega⟩
      -- way == 0
      refine q_whenO (K := K) (p := p) (k := decide (way = 0)) (fun σ' B' H' => σ' = [some (.ref g), some (.ref t1), some (.int way), some (.int a), some (.int k), some (.ref p), some (.str wd), some (.int i), some (.int j)] ∧ RowO K p a.toNat 200 B' H') (et_test (ev_op (ev_var rfl (.int way)) ev_i rv_eqI)) l3.h ?_ (fun _ B' H' l => ⟨rfl, R0.pure l⟩) ?_
      · intro _ B' H' l N hN
        obtain ⟨bp, ws, cs1, hp1, wq, good, la, l1000⟩ := R0.pure l
        have wl := wq.length
        obtain ⟨y, hy⟩ : ∃ y, ws[a.toNat]? = some y := ⟨_, List.getElem?_eq_getElem (by omega)⟩
        obtain ⟨c, hc, hyc⟩ := wq.get hy
        refine ⟨.ref p, rfl, .inl ⟨rfl, ws, .inl (.inl hp1)⟩, .int k, rfl, .ref p, rfl, .inl ⟨rfl, ws, .inl (.inl hp1)⟩, .int a, rfl, p, ws, a, a.toNat, y, rfl, rfl, hp1, by omega, by omega, (ixN_seq (at_pos a0 hy).2).1, hy, ?_⟩
        have hel : (ws.eraseIdx a.toNat).length = ws.length - 1 := List.length_eraseIdx_of_lt (by omega)
        have hel2 : (cs1.eraseIdx a.toNat).length = cs1.length - 1 := List.length_eraseIdx_of_lt la
        refine ⟨p, ws.eraseIdx a.toNat, k, y, rfl, rfl, upd_same, by omega, k0, by omega, ?_⟩
        have lp : Le [p] B' H' B' (upd H' p (.lst (ws.eraseIdx a.toNat))) := Le.put l.h bp (by simp)
        refine hN _ B' _ (lp.trans (Le.put lp.h bp (by simp))) ⟨rfl, bp, _, (cs1.eraseIdx a.toNat).take k.toNat ++ [c] ++ (cs1.eraseIdx a.toNat).drop k.toNat, upd_same, ?_, fun x hx => ?_, ?_, ?_⟩
        · have wq2 := DqAll.eraseIdx a.toNat wq
          exact ((wq2.take _).append (.cons hyc .nil)).append (wq2.drop _)
        · rcases ins_mem hx with rfl | hx
          · exact good _ (List.mem_of_getElem? hc)
          · exact good x ((List.eraseIdx_sublist cs1 a.toNat).subset hx)
        · rw [ins_len]; omega
        · rw [ins_len]; omega
      rintro σ' B4 H4 l4 ⟨rfl, R4⟩
      -- way == 1
      refine q_whenO (K := K) (p := p) (k := decide (way = 1)) (fun σ' B' H' => σ' = [some (.ref g), some (.ref t1), some (.int way), some (.int a), some (.int k), some (.ref p), some (.str wd), some (.int i), some (.int j)] ∧ RowO K p a.toNat 200 B' H') (et_test (ev_op (ev_var rfl (.int way)) ev_i rv_eqI)) l4.h ?_ (fun _ B' H' l => ⟨rfl, R4.pure l⟩) ?_
      · intro _ B' H' l N hN
        obtain ⟨bp, ws, cs1, hp1, wq, good, la, l1000⟩ := R4.pure l
        have wl := wq.length
        refine ⟨.str wd, rfl, .int j, rfl, .int i, rfl, by show 3 ≤ sizeLine; omega, fun t ht => ?_⟩
        have hpt : p ≠ t := fun z => by rw [← z, hp1] at ht; cases ht
        have ln := Le.new (M := []) (o := .tup [.str wd, .int j, .int i]) l.h ht
        have bp2 : (upd B' t (.tup [.str wd, .int j, .int i])) p = none := by rw [upd_ne hpt]; exact bp
        have hp2 : (upd H' t (.tup [.str wd, .int j, .int i])) p = some (.lst ws) := by rw [upd_ne hpt]; exact hp1
        obtain ⟨y, hy⟩ : ∃ y, ws[a.toNat]? = some y := ⟨_, List.getElem?_eq_getElem (by omega)⟩
        refine ⟨.ref p, rfl, .int a, rfl, p, ws, a, a.toNat, rfl, rfl, hp2, (at_pos a0 hy).2, ?_⟩
        refine hN _ _ _ (ln.any.trans (Le.put ln.h bp2 (by simp))) ⟨rfl, bp2, _, cs1.set a.toNat (.tuple [.str wd, .int j, .int i]), upd_same, DqAll.set (.tup (.inl (.inl upd_same)) (.cons (.str _) (.cons (.int _) (.cons (.int _) .nil)))) _ (wq.mono ln.b), fun x hx => ?_, by rw [List.length_set]; exact la, by rw [List.length_set]; exact l1000⟩
        rcases List.mem_or_eq_of_mem_set hx with hx | rfl
        · exact good x hx
        · exact cmdOk hw ⟨j0, j1⟩ ⟨i0, i1⟩ (Ne.symm hij)
      rintro σ' B5 H5 l5 ⟨rfl, R5⟩
      -- way == 2
      refine q_whenO (K := K) (p := p) (k := decide (way = 2)) (fun σ' B' H' => σ' = [some (.ref g), some (.ref t1), some (.int way), some (.int a), some (.int k), some (.ref p), some (.str wd), some (.int i), some (.int j)] ∧ RowO K p a.toNat 201 B' H') (et_test (ev_op (ev_var rfl (.int way)) ev_i rv_eqI)) l5.h ?_ (fun _ B' H' l => ⟨rfl, (R5.pure l).mono (by decide)⟩) ?_
      · intro _ B' H' l N hN
        obtain ⟨bp, ws, cs1, hp1, wq, good, la, l1000⟩ := R5.pure l
        have wl := wq.length
        obtain ⟨y, hy⟩ : ∃ y, ws[a.toNat]? = some y := ⟨_, List.getElem?_eq_getElem (by omega)⟩
        obtain ⟨c, hc, hyc⟩ := wq.get hy
        refine ⟨.ref p, rfl, .inl ⟨rfl, ws, .inl (.inl hp1)⟩, .int a, rfl, .ref p, rfl, .int a, rfl, .inl ⟨p, ws, a, y, rfl, rfl, .inl (.inl hp1), (at_pos a0 hy).1, ?_⟩⟩
        refine ⟨p, ws, a, y, rfl, rfl, hp1, by omega, a0, by omega, ?_⟩
        refine hN _ B' _ (Le.put l.h bp (by simp)) ⟨rfl, bp, _, cs1.take a.toNat ++ [c] ++ cs1.drop a.toNat, upd_same, ((wq.take _).append (.cons hyc .nil)).append (wq.drop _), fun x hx => ?_, ?_, ?_⟩
        · rcases ins_mem hx with rfl | hx
          · exact good _ (List.mem_of_getElem? hc)
          · exact good x hx
        · rw [ins_len]; omega
        · rw [ins_len]; omega
      rintro σ' B6 H6 l6 ⟨rfl, R6⟩
      -- way == 3
      refine q_whenO (K := K) (p := p) (k := decide (way = 3)) (fun σ' B' H' => σ' = [some (.ref g), some (.ref t1), some (.int way), some (.int a), some (.int k), some (.ref p), some (.str wd), some (.int i), some (.int j)] ∧ RowO K p a.toNat 201 B' H') (et_test (ev_op (ev_var rfl (.int way)) ev_i rv_eqI)) l6.h ?_ (fun _ B' H' l => ⟨rfl, R6.pure l⟩) ?_
      · intro _ B' H' l N hN
        have hE : Ev K (tOp (rIx K) (tLst (tCons (tC (.str "before")) (tCons (tC (.str "behind")) tNil))) (tCB rInt1 (tCons (tOp (rEqA K) (tVar 6) (tC (.str "before"))) tNil))) [some (.ref g), some (.ref t1), some (.int way), some (.int a), some (.int k), some (.ref p), some (.str wd), some (.int i), some (.int j)] B' H' (.str (if decide (wd = "before") then "behind" else "before")) :=
          ev_op (ev_lst (ea_cons ev_s (ea_cons ev_s ea_nil)) (by show 2 ≤ sizeLine; omega)) (ev_cb (rr := rInt1) (ea_cons (ev_op (ev_var rfl (.str wd)) ev_s rv_eqS) ea_nil) rc_int1) (rv_ixL (by cases decide (wd = "before") <;> rfl))
        refine hE B' H' (Le.refl l.h) _ fun vs B2' H2' l2' hvs => ?_
        cases hvs
        obtain ⟨bp, ws, cs1, hp1, wq, good, la, l1000⟩ := (R6.pure l).pure l2'
        have wl := wq.length
        refine ⟨.int i, rfl, .int j, rfl, by show 3 ≤ sizeLine; omega, fun t ht => ?_⟩
        have hpt : p ≠ t := fun z => by rw [← z, hp1] at ht; cases ht
        generalize hw2 : (if decide (wd = "before") then "behind" else "before" : PySem.Str) = w2 at ht ⊢
        have hw2' : w2 = "behind" ∨ w2 = "before" := by
          rw [← hw2]
          split
          · exact .inl rfl
          · exact .inr rfl
        have ln := Le.new (M := []) (o := .tup [.str w2, .int i, .int j]) l2'.h ht
        have bp2 : (upd B2' t (.tup [.str w2, .int i, .int j])) p = none := by rw [upd_ne hpt]; exact bp
        have hp2 : (upd H2' t (.tup [.str w2, .int i, .int j])) p = some (.lst ws) := by rw [upd_ne hpt]; exact hp1
        obtain ⟨y, hy⟩ : ∃ y, ws[a.toNat]? = some y := ⟨_, List.getElem?_eq_getElem (by omega)⟩
        refine ⟨.ref p, rfl, .int a, rfl, p, ws, a, a.toNat, rfl, rfl, hp2, (at_pos a0 hy).2, ?_⟩
        refine hN _ _ _ ((l2'.any.trans ln.any).trans (Le.put ln.h bp2 (by simp))) ⟨rfl, bp2, _, cs1.set a.toNat (.tuple [.str w2, .int i, .int j]), upd_same, DqAll.set (.tup (.inl (.inl upd_same)) (.cons (.str _) (.cons (.int _) (.cons (.int _) .nil)))) _ (wq.mono ln.b), fun x hx => ?_, by rw [List.length_set]; exact la, by rw [List.length_set]; exact l1000⟩
        rcases List.mem_or_eq_of_mem_set hx with hx | rfl
        · exact good x hx
        · exact cmdOk hw2' ⟨i0, i1⟩ ⟨j0, j1⟩ hij
      rintro σ' B7 H7 l7 ⟨rfl, R7⟩
      have l37 : Le [p] B2 (upd H2 p (.lst ws0)) B7 H7 := ((l4.trans l5).trans l6).trans l7
      have b7 := bag_other b3 l37 hpg
      have l27 : Le [p, g] B2 H2 B7 H7 := l3.trans (l37.wk (by simp))
      refine r_if ((et_test (K := K) (ev_op (ev_var (i := 2) (σ := [some (.ref g), some (.ref t1), some (.int way), some (.int a), some (.int k), some (.ref p), some (.str wd), some (.int i), some (.int j)]) rfl (.int way)) ev_i (rv_cmp (g := fun i j => decide (i < j))))) B7 H7 (Le.refl l7.h) _ fun B8 H8 l8 => ite_b (fun _ => ?_) fun _ => ?_)
      · obtain ⟨bp, ws, cs1, hp1, wq, good, la, ln⟩ := R7.pure l8
        have b8 := b7.pure l8
        have lg := ((l27.trans l8.any).give hp bp hp1).local hp
        have exB := ex_give l8.h hp1
        have hrow : Dq K (upd B8 p (.lst ws)) (.ref p) (.list cs1) := .lst upd_same (wq.mono (Evl.Ex.new bp))
        have b9 : Bag g (upd B8 p (.lst ws)) H8 := ⟨by rw [upd_ne (Ne.symm hpg)]; exact b8.own, b8.has⟩
        have c := ev_cb (K := K) (rr := rTupA K) (ea_cons (ev_sl (σ := [some (.ref g), some (.ref t1), some (.int way), some (.int a), some (.int k), some (.ref p), some (.str wd), some (.int i), some (.int j)]) (H := H8) (ev_var (i := 5) rfl hrow) eo_none (eo_some (K := K) (ev_i (i := 200))) rs_L) ea_nil) rc_tupL
        refine c _ _ (Le.refl exB) _ fun v B9 H9 l9 hv => ?_
        refine q _ ?_ v B9 H9 ((l12.trans lg).trans l9.any) (b9.pure l9) hv
        have e200 := cut_to cs1 200
        rw [show ((200 : Nat) : Int) = 200 from rfl] at e200
        rw [e200]
        exact good_scrO (by rw [List.length_take]; omega) (by rw [List.length_take]; omega) fun c hc => good c (List.mem_of_mem_take hc)
      · have b8 := b7.pure l8
        have l28 : Le [g] B2 H2 B8 H8 := (l27.trans l8.any).local hp
        have hS : Eb K g (tCall (ScriptS K) [] E0 (tCons (tVar 0) (tCons (tCall (ItemsS K) [] E0 (tCons (tVar 0) (tCons (tC (.int 5)) tNil))) (tCons (tC (.int 9)) tNil)))) [some (.ref g), some (.ref t1), some (.int way), some (.int a), some (.int k), some (.ref p), some (.str wd), some (.int i), some (.int j)] B8 H8 (fun d => isScriptD d = true) :=
          (eb_call (Rr := fun ds => ∃ xs : List Int, ds = [.list (xs.map PyData.int), .int 9] ∧ xs.length = 5 ∧ xs.Nodup ∧ ∀ k ∈ xs, 0 ≤ k ∧ k < 60) rfl (fun B1 H1 l b Q q => eba_cons (K := K) (g := g) (R1 := fun d => ∃ xs : List Int, d = .list (xs.map PyData.int) ∧ xs.length = 5 ∧ xs.Nodup ∧ ∀ k ∈ xs, 0 ≤ k ∧ k < 60) ((eb_call (Rr := (· = [.int 5])) rfl (eba_of fun _ _ _ => ea_cons ev_i ea_nil) fun ds h => ⟨5, h, by decide, by decide⟩).imp fun d h => by
              obtain ⟨ds, rfl, n', xs, en, rfl, h3, h4, h5⟩ := h
              cases en
              exact ⟨xs, rfl, by omega, h4, h5⟩) (eba_of (ds := [.int 9]) fun _ _ _ => ea_cons ev_i ea_nil) B1 H1 l b Q fun ds vs B2 H2 r => q ds vs B2 H2 (by
                obtain ⟨_, _, rfl, ⟨xs, rfl, h⟩, rfl⟩ := r
                exact ⟨xs, rfl, h⟩)) fun ds h => by
                  obtain ⟨xs, rfl, h1, h2, h3⟩ := h
                  exact ⟨xs, 9, rfl, by omega, by omega, h2, by decide, by decide⟩).imp fun d h => by
                    obtain ⟨ds, ⟨xs0, rfl, g1, g2, g3⟩, xs, m, cs2, en, rfl, h3, h4, h5⟩ := h
                    have e1 : xs0.map PyData.int = xs.map PyData.int := PyData.list.inj (List.cons.inj en).1
                    have e2 : (9 : Int) = m := PyData.int.inj (List.cons.inj (List.cons.inj en).2).1
                    rw [← ints_inj e1] at h5
                    exact good_scrO h3 (by omega) fun c hc => good_cmdO g3 (h5 c hc)
        exact hS B8 H8 (Le.refl l8.h) b8 _ fun d v B9 H9 r l9 b9 hv => q d r v B9 H9 ((l12.trans l28).trans l9) b9 hv
end
end K04

set_option maxRecDepth 100000
set_option maxHeartbeats 8000000
namespace K04
open PySem PySem.Spec PyProof.Rows L2 MA
def lawS (K : PySem.W.Frag) : Sp := fun vs H Q _ => ∃ a ns, vs = [.ref a] ∧ (ns : List Int).length ≤ 1000 ∧ SqL K H a (ns.map V.int) ∧ ∀ H', Q (.bl true) H'
section
variable {P : Program} {w : World} {K : PySem.W.Frag} {mg : PySem.Str → Option Value} {base : Heap}
theorem blk_in {cs : List PyData} (h : ∀ c ∈ cs, isCommandD c = true) {i : Int} (i0 : 0 ≤ i) (i1 : i < 60) : ∀ k ∈ scrMap cs i, 0 ≤ k ∧ k < 60 := fun k hk => by
  rcases scrMap_mem (good_of h) hk with e | e
  · subst e; exact ⟨i0, i1⟩
  · exact named_in e
theorem blk_pl {cs : List PyData} (h1 : 1 ≤ cs.length) (h : ∀ c ∈ cs, isCommandD c = true) {i : Int} (i0 : 0 ≤ i) (i1 : i < 60) : Pl 1 9000 (.tuple ((scrMap cs i).map PyData.int)) :=
  Pl.tup (k := 0) (w := 70) (fun x hx => by
    obtain ⟨k, hk, rfl⟩ := List.mem_map.mp hx
    have := blk_in h i0 i1 k hk
    exact pl_int this.1 this.2) (by rw [List.length_map]; have := scr_len h1 h (r := i); omega)
theorem ov_blk {cs : List PyData} (h1 : 1 ≤ cs.length) (h : ∀ c ∈ cs, isCommandD c = true) {i : Int} (i0 : 0 ≤ i) (i1 : i < 60) : Ov (.tuple ((scrMap cs i).map PyData.int)) :=
  ⟨(blk_pl h1 h i0 i1).od.mono (by decide) (by decide), by show ((scrMap cs i).map PyData.int).length ≤ 1000; rw [List.length_map]; have := scr_len h1 h (r := i); omega⟩
theorem ov_due {cs : List PyData} (h1 : 1 ≤ cs.length) (h : ∀ c ∈ cs, isCommandD c = true) : Ov (effD cs) := by
  have lp : ∀ n ∈ namedI cs, (0 ≤ n ∧ n < 60) ∧ Pl 1 4300 (.tuple ((scrMap cs n).map PyData.int)) := fun n hn => by
    have hb := named_in hn
    refine ⟨hb, Pl.tup (k := 0) (w := 70) (fun x hx => ?_) ?_⟩
    · obtain ⟨k, hk, rfl⟩ := List.mem_map.mp hx
      have := blk_in h hb.1 hb.2 k hk
      exact pl_int this.1 this.2
    · rw [List.length_map]
      have pm := (blocks_perm h).length_eq
      have nl := named_len cs
      have : (scrMap cs n).length ≤ ((namedI cs).flatMap (scrMap cs)).length := by
        have key : ∀ {L : List Int} {m : Int → List Int}, n ∈ L → (m n).length ≤ (L.flatMap m).length := by
          intro L m
          induction L with
          | nil => intro h; cases h
          | cons a L ih =>
            intro h
            rw [List.flatMap_cons, List.length_append]
            rcases List.mem_cons.mp h with e | e
            · subst e; omega
            · have := ih e; omega
        exact key hn
      omega
  exact ov_eff lp (named_len cs) (by decide) (by decide)
theorem ov_int {i : Int} (i0 : 0 ≤ i) (i1 : i < 60) : Ov (.int i) := ⟨(pl_int i0 i1).od.mono (by decide) (by decide), by show 0 ≤ 1000; decide⟩
theorem ov_bool2 (x y : Bool) : Ov (.list [.bool x, .bool y]) := ov_lst (k := 0) (w := 70) (n := 2) (fun d hd => by
  simp only [List.mem_cons, List.mem_nil_iff, or_false] at hd
  rcases hd with rfl | rfl <;> exact pl_of (by revert x y; decide)) (by show 2 ≤ 2; decide) (by decide) (by decide)
theorem src_in {cs : List PyData} {i : Int} (i0 : 0 ≤ i) (i1 : i < 60) : 0 ≤ srcOf cs i ∧ srcOf cs i < 60 := by
  unfold srcOf
  cases h : (namedI cs).find? fun n => decide (i ∈ scrMap cs n) with
  | none => exact ⟨i0, i1⟩
  | some n => exact named_in (List.mem_of_find?_eq_some h)
theorem src_head (cs : List PyData) (i : Int) : atI ((((namedI cs).filter fun n => decide (i ∈ scrMap cs n)).map PyData.int) ++ [.int i]) 0 = some (.int (srcOf cs i)) := by
  have e : (((namedI cs).filter fun n => decide (i ∈ scrMap cs n)).map PyData.int ++ [PyData.int i])[0]? = some (.int (srcOf cs i)) := by
    unfold srcOf
    rw [← List.head?_filter]
    cases (namedI cs).filter fun n => decide (i ∈ scrMap cs n) with
    | nil => rfl
    | cons a r => rfl
  exact (at_pos (a := 0) (by decide) e).1
theorem same_is (a b : List PyData) : (picked (fun k => !decide (scrMap a (k : Int) = scrMap b (k : Int))) (fun k => PyData.int (k : Int)) 60).isEmpty = sameB a b := by
  rw [Bool.eq_iff_iff, picked_nil]
  unfold sameB
  rw [List.all_map, List.all_eq_true]
  constructor
  · intro h k hk
    have := h k (List.mem_range.mp hk)
    simpa using this
  · intro h k hk
    have := h k (List.mem_range.mpr hk)
    simpa using this
theorem same_comm (a b : List PyData) : sameB a b = sameB b a := by
  unfold sameB
  congr 1
  apply List.map_congr_left
  intro k _
  exact decide_eq_decide.mpr ⟨Eq.symm, Eq.symm⟩
theorem ok_law {f : Addr} {fd : FuncData} (F : Fun K "law" "law" s_law f fd)
    (C__law_bag : Cl P w K mg base CX0 1 "_law_bag" ["cell"] BagS) (C__law_pick : Cl P w K mg base CX0 1 "_law_pick" ["bag", "many"] (PickS K)) (C__law_case : Cl P w K mg base CX0 3 "_law_case" ["bag", "most", "length"] (CaseS K))
    (C__law_blocks : Cl P w K mg base CX0 2 "_law_blocks" ["commands"] (Pn1 K (fun d => isScriptD d = true) fun d => effD (tupD d))) (C__law_lines_right : Cl P w K mg base CX0 3 "_law_lines_right" ["bag", "commands", "due"] (LinesRS K))
    (C_blocks_of : Cl P w K mg base CX0 6 "blocks_of" ["script"] (Pn1 K (fun d => isScriptD d = true) fun d => effD (tupD d))) (C_block_of : Cl P w K mg base CX0 6 "block_of" ["script", "item"] (BlockS K)) (C_source_of : Cl P w K mg base CX0 6 "source_of" ["script", "item"] (SourceS K))
    (C__law_other : Cl P w K mg base CX0 3 "_law_other" ["bag", "commands"] (OtherS K)) (C_same_blocks : Cl P w K mg base CX0 6 "same_blocks" ["script", "other_script"] (SameS K))
    (z_repr : mg "repr" = none) (z_range : mg "range" = none) (z_list : mg "list" = none) (z_len : mg "len" = none) : FnG P w K mg base 7 f fd ["script"] (lawS K) :=
  fnG F sc_law fun cdv A outer s H vs Q hg hr h => by
    obtain ⟨a, ns, rfl, hn, hs, q⟩ := h
    have hu := hr.units0
    have hu1 := hu_of hr
    have hgd : (cxOf CX0 P w K mg base N_law "law" (defScope s_law) f cdv A outer s H E0).nox.A.guards = some [] := hg
    have hu64 : (cxOf CX0 P w K mg base N_law "law" (defScope s_law) f cdv A outer s H E0).nox.A.units + 64 < cLine := hr.units
    refine ⟨_, (pss_cons (ps_for PassesOwn.never rfl (pi_list (pe_op op_addA (pe_slice sl_any (pv 0) po_none (po_some pe_int)) (pe_lst (pa_cons pe_int pa_nil)))) (pg_name (i := 1) sc_law.nd rfl (.inl rfl)) (pss_cons (ps_set (i := 2) sc_law.nd rfl (.inr rfl) (pe_callC C__law_bag (hr.mono (by decide)) (by rfl) pass0 (pa_cons (pv 1) pa_nil))) (pss_cons (ps_set (i := 3) sc_law.nd rfl (.inl rfl) (pe_ix ix_seq (pe_callC C__law_case (hr.mono (by decide)) (by rfl) pass0 (pa_cons (pv 2) (pa_cons (pe_ix ix_seq (pe_lst (pa_cons pe_int (pa_cons pe_int pa_nil))) (pe_callC C__law_pick (hr.mono (by decide)) (by rfl) pass0 (pa_cons (pv 2) (pa_cons pe_int pa_nil))) (fun _ _ => rfl)) (pa_cons (pe_ix ix_seq (pe_lst (pa_cons pe_int (pa_cons pe_int pa_nil))) (pe_callC C__law_pick (hr.mono (by decide)) (by rfl) pass0 (pa_cons (pv 2) (pa_cons pe_int pa_nil))) (fun _ _ => rfl)) pa_nil)))) pe_int (fun _ _ => rfl))) (pss_cons (ps_set (i := 4) sc_law.nd rfl (.inr rfl) (pe_callC C__law_blocks (hr.mono (by decide)) (by rfl) pass0 (pa_cons (pv 3) pa_nil))) (pss_cons (ps_if (pt_not (pt_val (pe_callC C__law_lines_right (hr.mono (by decide)) (by rfl) pass0 (pa_cons (pv 2) (pa_cons (pv 3) (pa_cons (pv 4) pa_nil)))))) (pss_one (ps_ret pe_bl)) pss_nil) (pss_cons (ps_for PassesOwn.never rfl (pi_range1 (by rfl) z_range (pa_cons pe_int pa_nil)) (pg_name (i := 5) sc_law.nd rfl (.inl rfl)) (pss_cons (ps_set (i := 6) sc_law.nd rfl (.inl rfl) (pe_callC C_blocks_of (hr.mono (by decide)) (by rfl) pass0 (pa_cons (pv 3) pa_nil))) (pss_cons (ps_if (pt_cmpR (op_neA hu) (pe_callB (call_repr hgd hu64) (by rfl) z_repr PyProof.Rows.boot_repr (pa_cons (pv 6) pa_nil)) (pe_callB (call_repr hgd hu64) (by rfl) z_repr PyProof.Rows.boot_repr (pa_cons (pv 4) pa_nil)) (nomark _)) (pss_one (ps_ret pe_bl)) pss_nil) (pss_one (ps_expr (pe_dclear (pv 6))))))) (pss_cons (ps_set (i := 7) sc_law.nd rfl (.inl rfl) (pe_listRg rfl (by rfl) z_list (prg_1 (by rfl) z_range pe_int))) (pss_cons (ps_if (pt_cmpR op_gt (pe_callB call_len_seq (by rfl) z_len PySem.boot_len (pa_cons (pv 3) pa_nil)) pe_int (nomark _)) (pss_one (ps_set (i := 7) sc_law.nd rfl (.inl rfl) (pe_op op_addA (pe_slice sl_any (pe_callTy (call_listD rfl) (by rfl) z_list (by decide +kernel) (pa_cons (pv 4) pa_nil)) po_none (po_some pe_int)) (pe_lc (own := [("k", 14)]) (tt := tYes) (te := (tCall _ [] E0 (tCons (tVar 2) (tCons (tC (.int 60)) tNil)))) rfl sc_law.nd (pi_range1 (by rfl) z_range (pa_cons pe_int pa_nil)) (blkOk_by (N := N_law) (sc := defScope s_law) (by decide +kernel)) (fun _ _ _ _ _ => (pg_name (i := 14) sc_law.nd rfl (.inl rfl))) (fun _ _ _ _ _ => pts_nil) (fun _ _ _ _ _ => (pe_callC C__law_pick (hr.mono (by decide)) (by rfl) pass0 (pa_cons (pv 2) (pa_cons pe_int pa_nil)))))))) pss_nil) (pss_cons (ps_for PassesOwn.never rfl (pi_list (pv 7)) (pg_name (i := 8) sc_law.nd rfl (.inr rfl)) (pss_cons (ps_if (pt_cmpR (op_neA hu) (pe_callB (call_repr hgd hu64) (by rfl) z_repr PyProof.Rows.boot_repr (pa_cons (pe_callC C_block_of (hr.mono (by decide)) (by rfl) pass0 (pa_cons (pv 3) (pa_cons (pv 8) pa_nil))) pa_nil)) (pe_callB (call_repr hgd hu64) (by rfl) z_repr PyProof.Rows.boot_repr (pa_cons (pe_dget2 hu1 (pv 4) (pv 8) (pe_tup (pa_cons (pv 8) pa_nil)) ⟨rfl, rfl, rfl, rfl⟩) pa_nil)) (nomark _)) (pss_one (ps_ret pe_bl)) pss_nil) (pss_cons (ps_set (i := 9) sc_law.nd rfl (.inl rfl) (pe_op op_addA (pe_lock (pe_lc (own := [("key", 15)]) (tt := (tTest (tOp (rIn K false) (tVar 8) (tDGet (tVar 4) (tVar 15))))) (te := (tVar 15)) rfl sc_law.nd (pi_keys (pv 4)) (blkOk_by (N := N_law) (sc := defScope s_law) (by decide +kernel)) (fun _ _ _ _ _ => (pg_name (i := 15) sc_law.nd rfl (.inl rfl))) (fun _ _ _ _ _ => (pts_one (pt_cmpR op_in_seq (pv 8) (pe_dget hu1 (pv 4) (pv 15) (fun _ _ => rfl)) (by rfl)))) (fun _ _ _ _ _ => (pv 15)))) (pe_lst (pa_cons (pv 8) pa_nil)))) (pss_one (ps_if (pt_cmpR (op_neA hu) (pe_callB (call_repr hgd hu64) (by rfl) z_repr PyProof.Rows.boot_repr (pa_cons (pe_callC C_source_of (hr.mono (by decide)) (by rfl) pass0 (pa_cons (pv 3) (pa_cons (pv 8) pa_nil))) pa_nil)) (pe_callB (call_repr hgd hu64) (by rfl) z_repr PyProof.Rows.boot_repr (pa_cons (pe_ix ix_seq (pv 9) pe_int (fun _ _ => rfl)) pa_nil)) (nomark _)) (pss_one (ps_ret pe_bl)) pss_nil))))) (pss_one (ps_for PassesOwn.never rfl (pi_range1 (by rfl) z_range (pa_cons pe_int pa_nil)) (pg_name (i := 10) sc_law.nd rfl (.inl rfl)) (pss_cons (ps_set (i := 11) sc_law.nd rfl (.inl rfl) (pe_callC C__law_other (hr.mono (by decide)) (by rfl) pass0 (pa_cons (pv 2) (pa_cons (pv 3) pa_nil)))) (pss_cons (ps_set (i := 12) sc_law.nd rfl (.inr rfl) (pe_callC C__law_blocks (hr.mono (by decide)) (by rfl) pass0 (pa_cons (pv 11) pa_nil))) (pss_cons (ps_set (i := 13) sc_law.nd rfl (.inl rfl) (pe_cmpR (op_eqA hu) (pe_lc (own := [("item", 8)]) (tt := (tTest (tOp (rNeD K) (tDGet2 (tVar 4) (tVar 8) (tTup (tCons (tVar 8) tNil))) (tDGet2 (tVar 12) (tVar 8) (tTup (tCons (tVar 8) tNil)))))) (te := (tVar 8)) rfl sc_law.nd (pi_range1 (by rfl) z_range (pa_cons pe_int pa_nil)) (blkOk_by (N := N_law) (sc := defScope s_law) (by decide +kernel)) (fun _ _ _ _ _ => (pg_name (i := 8) sc_law.nd rfl (.inl rfl))) (fun _ _ _ _ _ => (pts_one (pt_cmpR (op_neD hu64) (pe_dget2 hu1 (pv 4) (pv 8) (pe_tup (pa_cons (pv 8) pa_nil)) ⟨rfl, rfl, rfl, rfl⟩) (pe_dget2 hu1 (pv 12) (pv 8) (pe_tup (pa_cons (pv 8) pa_nil)) ⟨rfl, rfl, rfl, rfl⟩) (nomark _)))) (fun _ _ _ _ _ => (pv 8))) (pe_lst pa_nil) (nomark _))) (pss_one (ps_if (pt_cmpR (op_neA hu) (pe_callB (call_repr hgd hu64) (by rfl) z_repr PyProof.Rows.boot_repr (pa_cons (pe_lst (pa_cons (pe_callC C_same_blocks (hr.mono (by decide)) (by rfl) pass0 (pa_cons (pv 3) (pa_cons (pv 11) pa_nil))) (pa_cons (pe_callC C_same_blocks (hr.mono (by decide)) (by rfl) pass0 (pa_cons (pv 11) (pa_cons (pv 3) pa_nil))) pa_nil))) pa_nil)) (pe_callB (call_repr hgd hu64) (by rfl) z_repr PyProof.Rows.boot_repr (pa_cons (pe_lst (pa_cons (pv 13) (pa_cons (pv 13) pa_nil))) pa_nil)) (nomark _)) (pss_one (ps_ret pe_bl)) pss_nil)))))))))))))))) (pss_one (ps_ret pe_bl))), ?_⟩
    have src : Ev K (tOp (rAddA K) (tSl (rSlAny K) (tVar 0) tNoPart (tPart (tC (.int 12)))) (tLst (tCons (tC (.int 0)) tNil))) (L2.start N_law [.ref a]) H H (.list ((ns.take 12).map PyData.int ++ [.int 0])) :=
      ev_op (ev_slS (k := 12) rfl hs (by decide)) (ev_lst (ea_cons ev_i ea_nil) (size_ok (by decide))) (rv_addL (size_ok (by rw [List.length_map, List.length_take]; show min 12 ns.length + 1 ≤ 100000; omega)))
    refine q_forL (K := K) src (Ex.refl H) (fun i σ' B' => ∃ o1 o2 o3 o4 o5 o6 o7 o8 o9 oa ob oc od oe of_, σ' = [some (.ref a), o1, o2, o3, o4, o5, o6, o7, o8, o9, oa, ob, oc, od, oe, of_]) (fun B1 H1 l => ⟨_, _, _, _, _, _, _, _, _, _, _, _, _, _, _, rfl⟩) ?_ ?_
    · rintro i d v σ' B H0 N l0 hi hv ⟨o1, o2, o3, o4, o5, o6, o7, o8, o9, oa, ob, oc, od, oe, of_, rfl⟩ hN
      obtain ⟨c, rfl⟩ : ∃ c : Int, d = .int c := by
        rcases List.mem_append.mp (List.mem_of_getElem? hi) with z | z
        · obtain ⟨c, _, rfl⟩ := List.mem_map.mp z
          exact ⟨c, rfl⟩
        · exact ⟨0, List.mem_singleton.mp z⟩
      cases hv
      -- bag
      refine q_asgR ⟨.int c, rfl, c, rfl, fun g x y z hpg => ?_⟩
      have hB := none_of l0.h hpg
      have l1 : Le [g] B H0 B (upd H0 g (.lst [.int x, .int y, .int z])) := Le.made l0.h hpg
      have b1 : Bag g B (upd H0 g (.lst [.int x, .int y, .int z])) := ⟨hB, x, y, z, upd_same⟩
      -- commands
      have two : ∀ {σ : L2.St} {B1 H1 : Hp} {p q : Int}, σ[2]? = some (some (.ref g)) → Eb K g (tOp (rIx K) (tLst (tCons (tC (.int p)) (tCons (tC (.int q)) tNil))) (tCall (PickS K) [] E0 (tCons (tVar 2) (tCons (tC (.int 2)) tNil)))) σ B1 H1 (RI fun r => r = p ∨ r = q) := fun {σ B1 H1 p q} hσ =>
        eb_op (R1 := (· = .list [.int p, .int q])) (Rb := RI fun r => 0 ≤ r ∧ r < 2) (eb_of fun _ _ _ => ev_lst (ea_cons ev_i (ea_cons ev_i ea_nil)) (size_ok (by show 2 ≤ 100000; decide))) (eb_pickC (n := 2) hσ (fun _ _ _ => ev_i) (by decide) (by decide)) fun x y hx hy => by
          subst hx
          obtain ⟨k, rfl, k0, k1⟩ := hy
          rcases (show k = 0 ∨ k = 1 by omega) with rfl | rfl
          · exact ⟨.int p, rv_ixL rfl, p, rfl, .inl rfl⟩
          · exact ⟨.int q, rv_ixL rfl, q, rfl, .inr rfl⟩
      refine b_set (K := K) (g := g) (R := fun d => ∃ cs : List PyData, d = .tuple cs ∧ isScriptD (.tuple cs) = true) (eb_op (R1 := fun d => ∃ p cs, d = .tuple [p, .tuple cs] ∧ isScriptD (.tuple cs) = true) (Rb := (· = .int 1))
        ((eb_call (Rr := fun ds => ∃ m l : Int, ds = [.int m, .int l] ∧ 2 ≤ m ∧ m ≤ 60 ∧ 1 ≤ l ∧ l ≤ 200) rfl (fun B1 H1 l b Q q => eba_cons (K := K) (g := g) (two (p := 4) (q := 60) rfl) (eba_cons (two (p := 9) (q := 200) rfl) eba_nil) B1 H1 l b Q fun ds vs B2 H2 r => q ds vs B2 H2 (by
            obtain ⟨_, _, rfl, ⟨m, rfl, hm⟩, _, _, rfl, ⟨n, rfl, hn⟩, rfl⟩ := r
            exact ⟨m, n, rfl, by omega, by omega, by omega, by omega⟩)) fun ds h => by
              obtain ⟨m, l, rfl, h1, h2, h3, h4⟩ := h
              exact ⟨m, l, rfl, h1, h2, h3, by omega⟩).imp fun d h => by
                obtain ⟨ds, ⟨m, l, rfl, g1, g2, g3, g4⟩, m', l', xs, cs, en, rfl, x1, x2, x3, x4, y1, y2, y3⟩ := h
                have el : l = l' := PyData.int.inj (List.cons.inj (List.cons.inj en).2).1
                exact ⟨_, cs, rfl, good_scrO y1 (by omega) fun c hc => good_cmdO x4 (y3 c hc)⟩)
        (eb_of fun _ _ _ => ev_i) fun x y hx hy => by
          obtain ⟨p, cs, rfl, hcs⟩ := hx
          subst hy
          exact ⟨.tuple cs, rv_ixT rfl, cs, rfl, hcs⟩) l1.h b1 ?_
      rintro d v3 B2 H2 ⟨cs, rfl, scr⟩ l2 b2 h3
      obtain ⟨cs', ecs, c1, c200, hcs⟩ := script_of scr
      cases ecs
      have hgood := good_of hcs
      -- due
      refine q_set (K := K) (d := effD cs) (evN_call1 (g := fun d => effD (tupD d)) (ev_var rfl h3) scr).ev l2.h fun v4 B3 H3 l3 h4 => ?_
      have b3 := b2.pure l3
      have h33 := h3.mono l3.b
      have lr : Eb K g (tCall (LinesRS K) [] E0 (tCons (tVar 2) (tCons (tVar 3) (tCons (tVar 4) tNil)))) [some (.ref a), some (.int c), some (.ref g), some v3, some v4, o5, o6, o7, o8, o9, oa, ob, oc, od, oe, of_] B3 H3 (· = .bool true) :=
        (eb_call (K := K) (g := g) rfl (eba_of (ds := [.tuple cs, effD cs]) fun B4 H4 l => ea_cons (ev_var rfl (h33.mono l.b)) (ea_cons (ev_var rfl (h4.mono l.b)) ea_nil)) fun ds h => by
          subst h
          exact ⟨cs, rfl, scr⟩).imp fun d h => by obtain ⟨_, _, h⟩ := h; exact h
      refine b_whenF (g := g) (ebt_notB (K := K) (k := true) lr) l3.h b3 fun B4 H4 l4 b4 => ?_
      have l14 := (l1.trans l2).trans (l3.any.trans l4)
      have h34 := h33.mono l4.b
      have h44 := h4.mono l4.b
      have ovd := ov_due c1 hcs
      have due : ∀ {σ : L2.St} {B H : Hp} {i : Int}, σ[4]? = some (some v4) → σ[8]? = some (some (.int i)) → Dq K B v4 (effD cs) → Ev K (tDGet2 (tVar 4) (tVar 8) (tTup (tCons (tVar 8) tNil))) σ B H (.tuple ((scrMap cs i).map PyData.int)) := fun {σ B H i} e1 e2 h => by
        have g := ev_dget2 (K := K) (H := H) (ns := namedI cs) (F := fun n => .tuple ((scrMap cs n).map PyData.int)) (k := i) (dd := .tuple [.int i]) (ev_var e1 h) (ev_var e2 (.int i)) (ev_tup (ea_cons (ev_var e2 (.int i)) ea_nil) (size_ok (by show 1 ≤ 100000; decide)))
        have ee : (if i ∈ namedI cs then PyData.tuple ((scrMap cs i).map PyData.int) else .tuple [.int i]) = .tuple ((scrMap cs i).map PyData.int) := by
          by_cases z : i ∈ namedI cs
          · rw [if_pos z]
          · rw [if_neg z, scrMap_other z hgood]; rfl
        rw [ee] at g
        exact g
      -- blocks_of, twice
      refine q_forN (K := K) (n := 2) (ea_cons ev_i ea_nil) (by decide) (by decide) l4.h (fun i σ' B' => ∃ o5 o6, σ' = [some (.ref a), some (.int c), some (.ref g), some v3, some v4, o5, o6, o7, o8, o9, oa, ob, oc, od, oe, of_]) (fun B1 H1 l => ⟨_, _, rfl⟩) ?_ ?_
      · rintro j σ' B5 H5 N5 hj l5 ⟨o5, o6, rfl⟩ hN5
        have h35 := h34.mono l5.b
        have h45 := h44.mono l5.b
        refine q_asgR (evN_call1 (K := K) (g := fun d => effD (tupD d)) (ev_var rfl h35) scr B5 H5 (Le.refl l5.h) _ fun v6 B6 H6 l6 hn6 h6 => ?_)
        obtain ⟨p, rfl, hp5⟩ := hn6
        refine q_when (k := false) (et_same (s := (effD cs).shown) (ev_repr (ev_var rfl h6) ovd) (ev_repr (ev_var rfl (h45.mono l6.b)) ovd)) l6.h (fun z => by cases z) fun _ B7 H7 l7 => ?_
        have h67 : Dq K B7 (.ref p) (effD cs) := h6.mono l7.b
        unfold effD effM at h67
        generalize hE : (namedI cs).map (fun n => (PyData.int n, PyData.tuple ((scrMap cs n).map PyData.int))) = L at h67
        cases h67 with
        | dct hd6 hq6 =>
          rename_i kvs ds6
          have l57 := l6.trans l7
          obtain ⟨ld, dn⟩ := l57.drop l5.h hp5
          have hp7 := l57.h _ _ hd6
          refine ⟨.ref p, rfl, .inr (.inr (.inl ⟨rfl, .inl ⟨kvs, hp7⟩⟩)), p, kvs, rfl, rfl, hp7, ?_⟩
          have lp : Le [p] (dropB B7 p) H7 (dropB B7 p) (upd H7 p (.dK [])) := Le.put ld.h dn (by simp)
          exact hN5 _ _ _ (((ld.wk (by simp)).trans lp).local hp5) ⟨_, _, rfl⟩
      rintro σ' B5 H5 l5 ⟨o5, o6, rfl⟩
      have b5 := b4.pure l5
      have h35 := h34.mono l5.b
      have h45 := h44.mono l5.b
      -- some
      refine q_asgR ⟨60, rfl, .of_le (by decide) (by decide) (by decide) (by decide), fun p hp => ?_⟩
      rw [rgV60]
      have l6 : Le [] B5 H5 (upd B5 p (.lst (ints60.map V.int))) (upd H5 p (.lst (ints60.map V.int))) := Le.new l5.h hp
      have b6 := b5.pure l6
      have h7 : Dq K (upd B5 p (.lst (ints60.map V.int))) (.ref p) (.list (ints60.map PyData.int)) := .lst upd_same (dqInts _)
      have h36 := h35.mono l6.b
      have h46 := h45.mono l6.b
      refine q_whenB (g := g) (k := decide ((30 : Int) < cs.length)) (fun σ' B' H' => ∃ (v7 : V) (o14 : Option V) (is : List Int), σ' = [some (.ref a), some (.int c), some (.ref g), some v3, some v4, o5, o6, some v7, o8, o9, oa, ob, oc, od, o14, of_] ∧ Dq K B' v7 (.list (is.map PyData.int)) ∧ ∀ i ∈ is, 0 ≤ i ∧ i < 60)
        (et_test (ev_op (K := K) (ev_cb (ea_cons (ev_var (i := 3) rfl h36) ea_nil) rc_lenT) ev_i (rv_cmp (g := fun i j => decide (j < i))))) l6.h b6 ?_ (fun _ B' H' l => ⟨_, _, ints60, rfl, h7.mono l.b, ints60_in⟩) ?_
      · intro _ B7 H7 l7 b7 N7 hN7
        have h47 := h46.mono l7.b
        have hsome : Eb K g (tOp (rAddA K) (tSl (rSlAny K) (tCB rLstD (tCons (tVar 4) tNil)) tNoPart (tPart (tC (.int 3)))) (tLc (iRng1 (tCons (tC (.int 6)) tNil)) (gName 14) tYes (tCall (PickS K) [] E0 (tCons (tVar 2) (tCons (tC (.int 60)) tNil))) [14])) [some (.ref a), some (.int c), some (.ref g), some v3, some v4, o5, o6, some (.ref p), o8, o9, oa, ob, oc, od, oe, of_] B7 H7 (fun d => ∃ is : List Int, d = .list (is.map PyData.int) ∧ ∀ i ∈ is, 0 ≤ i ∧ i < 60) :=
          eb_op (R1 := (· = .list (((namedI cs).take 3).map PyData.int))) (Rb := fun d => ∃ ds, d = .list ds ∧ ds.length = 6 ∧ ∀ d ∈ ds, RI (fun r => 0 ≤ r ∧ r < 60) d)
            (eb_of fun B8 H8 l8 => by
              have c := ev_sl (K := K) (ev_cb (rr := rLstD) (ea_cons (ev_var (i := 4) (σ := [some (.ref a), some (.int c), some (.ref g), some v3, some v4, o5, o6, some (.ref p), o8, o9, oa, ob, oc, od, oe, of_]) (H := H8) rfl (h47.mono l8.b)) ea_nil) (rc_lstD (ns := namedI cs) (F := fun n => .tuple ((scrMap cs n).map PyData.int)))) eo_none (eo_some (K := K) (ev_i (i := 3))) rs_L
              rw [cut_ints _ (by decide)] at c
              exact c)
            (eb_lcR (n := 6) (R := RI fun r => 0 ≤ r ∧ r < 60) (by decide) (fun i B8 H8 l8 hi => eb_pickC (n := 60) rfl (fun _ _ _ => ev_i) (by decide) (by decide)))
            fun x y hx hy => by
              subst hx
              obtain ⟨ds, rfl, hl, hds⟩ := hy
              obtain ⟨is, rfl, his⟩ : ∃ is : List Int, ds = is.map PyData.int ∧ ∀ i ∈ is, 0 ≤ i ∧ i < 60 := by
                clear hl
                induction ds with
                | nil => exact ⟨[], rfl, by simp⟩
                | cons d ds ih =>
                  obtain ⟨r, rfl, hr⟩ := hds d (List.mem_cons_self ..)
                  obtain ⟨is, rfl, his⟩ := ih fun x hx => hds x (List.mem_cons_of_mem _ hx)
                  exact ⟨r :: is, rfl, fun i hi => (List.mem_cons.mp hi).elim (fun e => by rw [e]; exact hr) (his i)⟩
              refine ⟨_, rv_addL (size_ok ?_), (namedI cs).take 3 ++ is, by rw [List.map_append], fun i hi => ?_⟩
              · rw [hl, List.length_map, List.length_take]
                omega
              · rcases List.mem_append.mp hi with z | z
                · exact named_in (List.mem_of_mem_take z)
                · exact his i z
        refine hsome B7 H7 (Le.refl l7.h) b7 _ fun d v7 B8 H8 r l8 b8 hv7 => ?_
        obtain ⟨is, rfl, his⟩ := r
        exact hN7 _ B8 H8 l8 b8 ⟨v7, _, is, rfl, hv7, his⟩
      rintro σ' B7 H7 l7 b7 ⟨v7, o14, is, rfl, h7', his⟩
      have h37 := h36.mono l7.b
      have h47 := h46.mono l7.b
      -- for item in some
      refine q_forL (K := K) (ev_var rfl h7') l7.h (fun i σ' B' => ∃ o8 o9 o15, σ' = [some (.ref a), some (.int c), some (.ref g), some v3, some v4, o5, o6, some v7, o8, o9, oa, ob, oc, od, o14, o15]) (fun B1 H1 l => ⟨_, _, _, rfl⟩) ?_ ?_
      · rintro j d v8 σ' B8 H8 N8 l8 hj hv8 ⟨o8, o9, o15, rfl⟩ hN8
        obtain ⟨it, hit, rfl⟩ := List.mem_map.mp (List.mem_of_getElem? hj)
        obtain ⟨i0, i1⟩ := his it hit
        cases hv8
        have h38 := h37.mono l8.b
        have h48 := h47.mono l8.b
        have e1 : Ev K (tCall (BlockS K) [] E0 (tCons (tVar 3) (tCons (tVar 8) tNil))) [some (.ref a), some (.int c), some (.ref g), some v3, some v4, o5, o6, some v7, some (.int it), o9, oa, ob, oc, od, o14, o15] B8 H8 (.tuple ((scrMap cs it).map PyData.int)) :=
          ev_callU (ea_cons (ev_var rfl h38) (ea_cons (ev_var rfl (.int it)) ea_nil)) ⟨cs, it, rfl, scr, i0, i1⟩ fun x hx => by
            obtain ⟨cs', i', en, rfl⟩ := hx
            have z1 := PyData.tuple.inj (List.cons.inj en).1
            have z2 := PyData.int.inj (List.cons.inj (List.cons.inj en).2).1
            rw [z1, z2]
        refine q_when (k := false) (et_same (s := (PyData.tuple ((scrMap cs it).map PyData.int)).shown) (ev_repr e1 (ov_blk c1 hcs i0 i1)) (ev_repr (due rfl rfl h48) (ov_blk c1 hcs i0 i1))) l8.h (fun z => by cases z) fun _ B9 H9 l9 => ?_
        have h39 := h38.mono l9.b
        have h49 := h48.mono l9.b
        have kf := ev_keysF (K := K) (σ := [some (.ref a), some (.int c), some (.ref g), some v3, some v4, o5, o6, some v7, some (.int it), o9, oa, ob, oc, od, o14, o15]) (H := H9) (ns := namedI cs) (m := scrMap cs) (x := it) (id_ := 4) (ix := 8) (jk := 15) (vs := [15]) rfl h49 l9.h (named_nd cs) (by have := named_len cs; omega) (fun _ => rfl) (fun _ => rfl) (fun _ => rfl) (fun _ => rfl)
        refine q_set (K := K) (d := .list (((namedI cs).filter fun n => decide (it ∈ scrMap cs n)).map PyData.int ++ [.int it])) (ev_op kf (ev_lst (ea_cons (ev_var rfl (.int it)) ea_nil) (size_ok (by show 1 ≤ 100000; decide))) (rv_addL (size_ok (by
          rw [List.length_map]
          have h1 := List.length_filter_le (fun n => decide (it ∈ scrMap cs n)) (namedI cs)
          have h2 := named_len cs
          show _ + 1 ≤ 100000
          omega)))) l9.h fun v9 B10 H10 l10 h9 => ?_
        have e2 : Ev K (tCall (SourceS K) [] E0 (tCons (tVar 3) (tCons (tVar 8) tNil))) [some (.ref a), some (.int c), some (.ref g), some v3, some v4, o5, o6, some v7, some (.int it), some v9, oa, ob, oc, od, o14, o15] B10 H10 (.int (srcOf cs it)) :=
          ev_callU (ea_cons (ev_var rfl (h39.mono l10.b)) (ea_cons (ev_var rfl (.int it)) ea_nil)) ⟨cs, it, rfl, scr, i0, i1⟩ fun x hx => by
            obtain ⟨cs', i', en, rfl⟩ := hx
            have z1 := PyData.tuple.inj (List.cons.inj en).1
            have z2 := PyData.int.inj (List.cons.inj (List.cons.inj en).2).1
            rw [z1, z2]
        have sin := src_in (cs := cs) i0 i1
        refine s_when (k := false) (et_same (s := (PyData.int (srcOf cs it)).shown) (ev_repr e2 (ov_int sin.1 sin.2)) (ev_repr (ev_op (ev_var rfl h9) ev_i (rv_ixL (src_head cs it))) (ov_int sin.1 sin.2))) l10.h (fun z => by cases z) fun _ B11 H11 l11 => ?_
        exact hN8 _ B11 H11 ((l9.trans l10).trans l11) ⟨_, _, _, rfl⟩
      rintro σ' B8 H8 l8 ⟨o8, o9, o15, rfl⟩
      have b8 := b7.pure l8
      have h38 := h37.mono l8.b
      have h48 := h47.mono l8.b
      -- for turn in range(4)
      refine ⟨4, rfl, by decide, by decide, for_range (lo := 0) (n := 4) (fun i σ' H' => ∃ (B' : Hp) (o8 oa ob oc od : Option V), σ' = [some (.ref a), some (.int c), some (.ref g), some v3, some v4, o5, o6, some v7, o8, o9, oa, ob, oc, od, o14, o15] ∧ Le [g] B8 H8 B' H' ∧ Bag g B' H') ⟨B8, _, _, _, _, _, rfl, Le.refl l8.h, b8⟩ ?_ ?_⟩
      · rintro j σ' H' hj ⟨Bi, o8, oa, ob, oc, od, rfl, li, bi⟩
        have h3i := h38.mono li.b
        have h4i := h48.mono li.b
        refine b_set (K := K) (g := g) (R := fun d => isScriptD d = true) ((eb_call (K := K) (g := g) rfl (eba_of (ds := [.tuple cs]) fun B4 H4 l => ea_cons (ev_var rfl (h3i.mono l.b)) ea_nil) fun ds h => by
          subst h
          exact ⟨cs, rfl, scr⟩).imp fun d h => by obtain ⟨_, _, h⟩ := h; exact h) li.h bi ?_
        rintro d v11 B9 H9 scr2 l9 b9 h11
        obtain ⟨cs2, rfl, d1, d200, hcs2⟩ := script_of scr2
        have hgood2 := good_of hcs2
        refine q_set (K := K) (d := effD cs2) (evN_call1 (g := fun d => effD (tupD d)) (ev_var rfl h11) scr2).ev l9.h fun v12 B10 H10 l10 h12 => ?_
        have h410 := (h4i.mono l9.b).mono l10.b
        have h310 := (h3i.mono l9.b).mono l10.b
        have h1110 := h11.mono l10.b
        have two2 : ∀ {σ : L2.St} {B H : Hp} {i : Int}, σ[12]? = some (some v12) → σ[8]? = some (some (.int i)) → Dq K B v12 (effD cs2) → Ev K (tDGet2 (tVar 12) (tVar 8) (tTup (tCons (tVar 8) tNil))) σ B H (.tuple ((scrMap cs2 i).map PyData.int)) := fun {σ B H i} e1 e2 h => by
          have g := ev_dget2 (K := K) (H := H) (ns := namedI cs2) (F := fun n => .tuple ((scrMap cs2 n).map PyData.int)) (k := i) (dd := .tuple [.int i]) (ev_var e1 h) (ev_var e2 (.int i)) (ev_tup (ea_cons (ev_var e2 (.int i)) ea_nil) (size_ok (by show 1 ≤ 100000; decide)))
          have ee : (if i ∈ namedI cs2 then PyData.tuple ((scrMap cs2 i).map PyData.int) else .tuple [.int i]) = .tuple ((scrMap cs2 i).map PyData.int) := by
            by_cases z : i ∈ namedI cs2
            · rw [if_pos z]
            · rw [if_neg z, scrMap_other z hgood2]; rfl
          rw [ee] at g
          exact g
        have sm := ev_lcR (K := K) (σ := [some (.ref a), some (.int c), some (.ref g), some v3, some v4, o5, o6, some v7, o8, o9, some (.int (0 + (j : Nat))), some v11, some v12, od, o14, o15]) (B := B10) (H := H10) (tn := tC (.int 60)) (tt := tTest (tOp (rNeD K) (tDGet2 (tVar 4) (tVar 8) (tTup (tCons (tVar 8) tNil))) (tDGet2 (tVar 12) (tVar 8) (tTup (tCons (tVar 8) tNil))))) (te := tVar 8) (n := 60) (j := 8) (vs := [8]) (fun k => !decide (scrMap cs (k : Int) = scrMap cs2 (k : Int))) (fun k => .int (k : Int)) (ev_c (.int 60)) (by decide)
          (fun k B11 H11 l11 hk => et_test (ev_op (due rfl rfl (h410.mono l11.b)) (two2 rfl rfl (h12.mono l11.b)) rv_neTD)) (fun k B11 H11 l11 hk _ => ev_var rfl (.int _))
        have sm2 := ev_op sm (ev_lst (K := K) ea_nil (Nat.zero_le _)) rv_eqL0
        rw [same_is] at sm2
        refine q_set (K := K) (d := .bool (sameB cs cs2)) sm2 l10.h fun v13 B11 H11 l11 h13 => ?_
        cases h13
        have h311 := h310.mono l11.b
        have h1111 := h1110.mono l11.b
        have sb : ∀ {σ : L2.St} {i1 i2 : Nat} {w1 w2 : V} {c1 c2 : List PyData}, σ[i1]? = some (some w1) → σ[i2]? = some (some w2) → Dq K B11 w1 (.tuple c1) → Dq K B11 w2 (.tuple c2) → isScriptD (.tuple c1) = true → isScriptD (.tuple c2) = true → Ev K (tCall (SameS K) [] E0 (tCons (tVar i1) (tCons (tVar i2) tNil))) σ B11 H11 (.bool (sameB c1 c2)) := fun {σ i1 i2 w1 w2 c1 c2} e1 e2 g1 g2 s1 s2 =>
          ev_callU (ea_cons (ev_var e1 g1) (ea_cons (ev_var e2 g2) ea_nil)) ⟨c1, c2, rfl, s1, s2⟩ fun x hx => by
            obtain ⟨a', b', en, rfl⟩ := hx
            have z1 := PyData.tuple.inj (List.cons.inj en).1
            have z2 := PyData.tuple.inj (List.cons.inj (List.cons.inj en).2).1
            rw [z1, z2]
        have sb2 := sb (σ := [some (.ref a), some (.int c), some (.ref g), some v3, some v4, o5, o6, some v7, o8, o9, some (.int (0 + (j : Nat))), some v11, some v12, some (.bl (sameB cs cs2)), o14, o15]) (i1 := 11) (i2 := 3) rfl rfl h1111 h311 scr2 scr
        rw [← same_comm cs cs2] at sb2
        refine s_when (k := false) (et_same (s := (PyData.list [.bool (sameB cs cs2), .bool (sameB cs cs2)]).shown) (ev_repr (ev_lst (ea_cons (sb (i1 := 3) (i2 := 11) rfl rfl h311 h1111 scr scr2) (ea_cons sb2 ea_nil)) (size_ok (by show 2 ≤ 100000; decide))) (ov_bool2 _ _))
          (ev_repr (ev_lst (ea_cons (ev_var rfl (.bl _)) (ea_cons (ev_var rfl (.bl _)) ea_nil)) (size_ok (by show 2 ≤ 100000; decide))) (ov_bool2 _ _))) l11.h (fun z => by cases z) fun _ B12 H12 l12 => ?_
        have l912 := (l10.trans l11).trans l12
        exact ⟨B12, _, _, _, _, _, rfl, (li.trans l9).trans l912.any, b9.pure l912⟩
      · rintro σ' H' ⟨Bi, o8, oa, ob, oc, od, rfl, li, bi⟩
        exact hN _ Bi H' ((((l14.trans ((l5.trans l6).any.trans (l7.trans l8.any))).trans li)).local hpg) ⟨_, _, _, _, _, _, _, _, _, _, _, _, _, _, _, rfl⟩
    · rintro σ' B H0 l0 _
      refine s_ret (K := K) (d := .bool true) ev_b l0.h fun v B' H' l2 hv => ?_
      cases hv
      exact q H'
end
end K04

set_option maxRecDepth 100000
set_option maxHeartbeats 8000000
namespace K04
open PySem PySem.Spec PyProof.Rows L2 MA
theorem words_vals {its : Array Value} (h : its.toList.map absV = [some (.str "behind"), some (.str "before")]) : Vals [V.str "behind", V.str "before"] its.toList := by
  match q : its.toList, h with
  | [], h => exact absurd (congrArg List.length h) (by simp)
  | [x], h => exact absurd (congrArg List.length h) (by simp)
  | [x, y], h =>
    have h1 : absV x = some (V.str "behind") := (List.cons.inj h).1
    have h2 : absV y = some (V.str "before") := (List.cons.inj (List.cons.inj h).2).1
    have str_of : ∀ (v : Value) (s : PySem.Str), absV v = some (V.str s) → RelV (V.str s) v := fun v s e => by
      cases v <;> first | (cases e; exact ⟨_, rfl⟩) | cases e
    exact .cons (str_of x _ h1) (.cons (str_of y _ h2) .nil)
  | _ :: _ :: _ :: _, h => exact absurd (congrArg List.length h) (by simp)
theorem df_is_within {K : PySem.W.Frag} {mg : PySem.Str → Option Value} {f : Addr} {fd : FuncData} (F : Fun K "is_within" "is_within" s_is_within f fd) (h : mg "is_within" = some (.ref f)) : Df K mg "is_within" s_is_within ["value", "least", "most"] := ⟨f, fd, F, h, F.binds (ps := ["value", "least", "most"]) fun _ _ _ _ _ _ us hl => match us, hl with | [_, _, _], _ => rfl⟩
theorem df_is_item {K : PySem.W.Frag} {mg : PySem.Str → Option Value} {f : Addr} {fd : FuncData} (F : Fun K "is_item" "is_item" s_is_item f fd) (h : mg "is_item" = some (.ref f)) : Df K mg "is_item" s_is_item ["value"] := ⟨f, fd, F, h, F.binds (ps := ["value"]) fun _ _ _ _ _ _ us hl => match us, hl with | [_], _ => rfl⟩
theorem df_is_command {K : PySem.W.Frag} {mg : PySem.Str → Option Value} {f : Addr} {fd : FuncData} (F : Fun K "is_command" "is_command" s_is_command f fd) (h : mg "is_command" = some (.ref f)) : Df K mg "is_command" s_is_command ["value"] := ⟨f, fd, F, h, F.binds (ps := ["value"]) fun _ _ _ _ _ _ us hl => match us, hl with | [_], _ => rfl⟩
theorem df_is_script {K : PySem.W.Frag} {mg : PySem.Str → Option Value} {f : Addr} {fd : FuncData} (F : Fun K "is_script" "is_script" s_is_script f fd) (h : mg "is_script" = some (.ref f)) : Df K mg "is_script" s_is_script ["value"] := ⟨f, fd, F, h, F.binds (ps := ["value"]) fun _ _ _ _ _ _ us hl => match us, hl with | [_], _ => rfl⟩
theorem df_require_script {K : PySem.W.Frag} {mg : PySem.Str → Option Value} {f : Addr} {fd : FuncData} (F : Fun K "require_script" "require_script" s_require_script f fd) (h : mg "require_script" = some (.ref f)) : Df K mg "require_script" s_require_script ["value"] := ⟨f, fd, F, h, F.binds (ps := ["value"]) fun _ _ _ _ _ _ us hl => match us, hl with | [_], _ => rfl⟩
theorem df_require_item {K : PySem.W.Frag} {mg : PySem.Str → Option Value} {f : Addr} {fd : FuncData} (F : Fun K "require_item" "require_item" s_require_item f fd) (h : mg "require_item" = some (.ref f)) : Df K mg "require_item" s_require_item ["value"] := ⟨f, fd, F, h, F.binds (ps := ["value"]) fun _ _ _ _ _ _ us hl => match us, hl with | [_], _ => rfl⟩
theorem df_named_items {K : PySem.W.Frag} {mg : PySem.Str → Option Value} {f : Addr} {fd : FuncData} (F : Fun K "named_items" "named_items" s_named_items f fd) (h : mg "named_items" = some (.ref f)) : Df K mg "named_items" s_named_items ["script"] := ⟨f, fd, F, h, F.binds (ps := ["script"]) fun _ _ _ _ _ _ us hl => match us, hl with | [_], _ => rfl⟩
theorem df_played {K : PySem.W.Frag} {mg : PySem.Str → Option Value} {f : Addr} {fd : FuncData} (F : Fun K "played" "played" s_played f fd) (h : mg "played" = some (.ref f)) : Df K mg "played" s_played ["items", "script"] := ⟨f, fd, F, h, F.binds (ps := ["items", "script"]) fun _ _ _ _ _ _ us hl => match us, hl with | [_, _], _ => rfl⟩
theorem df_fenced {K : PySem.W.Frag} {mg : PySem.Str → Option Value} {f : Addr} {fd : FuncData} (F : Fun K "fenced" "fenced" s_fenced f fd) (h : mg "fenced" = some (.ref f)) : Df K mg "fenced" s_fenced ["items"] := ⟨f, fd, F, h, F.binds (ps := ["items"]) fun _ _ _ _ _ _ us hl => match us, hl with | [_], _ => rfl⟩
theorem df_between_fences {K : PySem.W.Frag} {mg : PySem.Str → Option Value} {f : Addr} {fd : FuncData} (F : Fun K "between_fences" "between_fences" s_between_fences f fd) (h : mg "between_fences" = some (.ref f)) : Df K mg "between_fences" s_between_fences ["row"] := ⟨f, fd, F, h, F.binds (ps := ["row"]) fun _ _ _ _ _ _ us hl => match us, hl with | [_], _ => rfl⟩
theorem df_effect_of {K : PySem.W.Frag} {mg : PySem.Str → Option Value} {f : Addr} {fd : FuncData} (F : Fun K "effect_of" "effect_of" s_effect_of f fd) (h : mg "effect_of" = some (.ref f)) : Df K mg "effect_of" s_effect_of ["script"] := ⟨f, fd, F, h, F.binds (ps := ["script"]) fun _ _ _ _ _ _ us hl => match us, hl with | [_], _ => rfl⟩
theorem df_replaced {K : PySem.W.Frag} {mg : PySem.Str → Option Value} {f : Addr} {fd : FuncData} (F : Fun K "replaced" "replaced" s_replaced f fd) (h : mg "replaced" = some (.ref f)) : Df K mg "replaced" s_replaced ["items", "blocks"] := ⟨f, fd, F, h, F.binds (ps := ["items", "blocks"]) fun _ _ _ _ _ _ us hl => match us, hl with | [_, _], _ => rfl⟩
theorem df_sources_of {K : PySem.W.Frag} {mg : PySem.Str → Option Value} {f : Addr} {fd : FuncData} (F : Fun K "sources_of" "sources_of" s_sources_of f fd) (h : mg "sources_of" = some (.ref f)) : Df K mg "sources_of" s_sources_of ["effect"] := ⟨f, fd, F, h, F.binds (ps := ["effect"]) fun _ _ _ _ _ _ us hl => match us, hl with | [_], _ => rfl⟩
theorem df_block_of {K : PySem.W.Frag} {mg : PySem.Str → Option Value} {f : Addr} {fd : FuncData} (F : Fun K "block_of" "block_of" s_block_of f fd) (h : mg "block_of" = some (.ref f)) : Df K mg "block_of" s_block_of ["script", "item"] := ⟨f, fd, F, h, F.binds (ps := ["script", "item"]) fun _ _ _ _ _ _ us hl => match us, hl with | [_, _], _ => rfl⟩
theorem df_source_of {K : PySem.W.Frag} {mg : PySem.Str → Option Value} {f : Addr} {fd : FuncData} (F : Fun K "source_of" "source_of" s_source_of f fd) (h : mg "source_of" = some (.ref f)) : Df K mg "source_of" s_source_of ["script", "item"] := ⟨f, fd, F, h, F.binds (ps := ["script", "item"]) fun _ _ _ _ _ _ us hl => match us, hl with | [_, _], _ => rfl⟩
theorem df_blocks_of {K : PySem.W.Frag} {mg : PySem.Str → Option Value} {f : Addr} {fd : FuncData} (F : Fun K "blocks_of" "blocks_of" s_blocks_of f fd) (h : mg "blocks_of" = some (.ref f)) : Df K mg "blocks_of" s_blocks_of ["script"] := ⟨f, fd, F, h, F.binds (ps := ["script"]) fun _ _ _ _ _ _ us hl => match us, hl with | [_], _ => rfl⟩
theorem df_same_blocks {K : PySem.W.Frag} {mg : PySem.Str → Option Value} {f : Addr} {fd : FuncData} (F : Fun K "same_blocks" "same_blocks" s_same_blocks f fd) (h : mg "same_blocks" = some (.ref f)) : Df K mg "same_blocks" s_same_blocks ["script", "other_script"] := ⟨f, fd, F, h, F.binds (ps := ["script", "other_script"]) fun _ _ _ _ _ _ us hl => match us, hl with | [_, _], _ => rfl⟩
theorem df__law_bag {K : PySem.W.Frag} {mg : PySem.Str → Option Value} {f : Addr} {fd : FuncData} (F : Fun K "_law_bag" "_law_bag" s__law_bag f fd) (h : mg "_law_bag" = some (.ref f)) : Df K mg "_law_bag" s__law_bag ["cell"] := ⟨f, fd, F, h, F.binds (ps := ["cell"]) fun _ _ _ _ _ _ us hl => match us, hl with | [_], _ => rfl⟩
theorem df__law_pick {K : PySem.W.Frag} {mg : PySem.Str → Option Value} {f : Addr} {fd : FuncData} (F : Fun K "_law_pick" "_law_pick" s__law_pick f fd) (h : mg "_law_pick" = some (.ref f)) : Df K mg "_law_pick" s__law_pick ["bag", "many"] := ⟨f, fd, F, h, F.binds (ps := ["bag", "many"]) fun _ _ _ _ _ _ us hl => match us, hl with | [_, _], _ => rfl⟩
theorem df__law_items {K : PySem.W.Frag} {mg : PySem.Str → Option Value} {f : Addr} {fd : FuncData} (F : Fun K "_law_items" "_law_items" s__law_items f fd) (h : mg "_law_items" = some (.ref f)) : Df K mg "_law_items" s__law_items ["bag", "many"] := ⟨f, fd, F, h, F.binds (ps := ["bag", "many"]) fun _ _ _ _ _ _ us hl => match us, hl with | [_, _], _ => rfl⟩
theorem df__law_script {K : PySem.W.Frag} {mg : PySem.Str → Option Value} {f : Addr} {fd : FuncData} (F : Fun K "_law_script" "_law_script" s__law_script f fd) (h : mg "_law_script" = some (.ref f)) : Df K mg "_law_script" s__law_script ["bag", "items", "most"] := ⟨f, fd, F, h, F.binds (ps := ["bag", "items", "most"]) fun _ _ _ _ _ _ us hl => match us, hl with | [_, _, _], _ => rfl⟩
theorem df__law_case {K : PySem.W.Frag} {mg : PySem.Str → Option Value} {f : Addr} {fd : FuncData} (F : Fun K "_law_case" "_law_case" s__law_case f fd) (h : mg "_law_case" = some (.ref f)) : Df K mg "_law_case" s__law_case ["bag", "most", "length"] := ⟨f, fd, F, h, F.binds (ps := ["bag", "most", "length"]) fun _ _ _ _ _ _ us hl => match us, hl with | [_, _, _], _ => rfl⟩
theorem df__law_moved {K : PySem.W.Frag} {mg : PySem.Str → Option Value} {f : Addr} {fd : FuncData} (F : Fun K "_law_moved" "_law_moved" s__law_moved f fd) (h : mg "_law_moved" = some (.ref f)) : Df K mg "_law_moved" s__law_moved ["line", "command"] := ⟨f, fd, F, h, F.binds (ps := ["line", "command"]) fun _ _ _ _ _ _ us hl => match us, hl with | [_, _], _ => rfl⟩
theorem df__law_done {K : PySem.W.Frag} {mg : PySem.Str → Option Value} {f : Addr} {fd : FuncData} (F : Fun K "_law_done" "_law_done" s__law_done f fd) (h : mg "_law_done" = some (.ref f)) : Df K mg "_law_done" s__law_done ["line", "commands"] := ⟨f, fd, F, h, F.binds (ps := ["line", "commands"]) fun _ _ _ _ _ _ us hl => match us, hl with | [_, _], _ => rfl⟩
theorem df__law_named {K : PySem.W.Frag} {mg : PySem.Str → Option Value} {f : Addr} {fd : FuncData} (F : Fun K "_law_named" "_law_named" s__law_named f fd) (h : mg "_law_named" = some (.ref f)) : Df K mg "_law_named" s__law_named ["commands"] := ⟨f, fd, F, h, F.binds (ps := ["commands"]) fun _ _ _ _ _ _ us hl => match us, hl with | [_], _ => rfl⟩
theorem df__law_blocks {K : PySem.W.Frag} {mg : PySem.Str → Option Value} {f : Addr} {fd : FuncData} (F : Fun K "_law_blocks" "_law_blocks" s__law_blocks f fd) (h : mg "_law_blocks" = some (.ref f)) : Df K mg "_law_blocks" s__law_blocks ["commands"] := ⟨f, fd, F, h, F.binds (ps := ["commands"]) fun _ _ _ _ _ _ us hl => match us, hl with | [_], _ => rfl⟩
theorem df__law_lines_right {K : PySem.W.Frag} {mg : PySem.Str → Option Value} {f : Addr} {fd : FuncData} (F : Fun K "_law_lines_right" "_law_lines_right" s__law_lines_right f fd) (h : mg "_law_lines_right" = some (.ref f)) : Df K mg "_law_lines_right" s__law_lines_right ["bag", "commands", "due"] := ⟨f, fd, F, h, F.binds (ps := ["bag", "commands", "due"]) fun _ _ _ _ _ _ us hl => match us, hl with | [_, _, _], _ => rfl⟩
theorem df__law_other {K : PySem.W.Frag} {mg : PySem.Str → Option Value} {f : Addr} {fd : FuncData} (F : Fun K "_law_other" "_law_other" s__law_other f fd) (h : mg "_law_other" = some (.ref f)) : Df K mg "_law_other" s__law_other ["bag", "commands"] := ⟨f, fd, F, h, F.binds (ps := ["bag", "commands"]) fun _ _ _ _ _ _ us hl => match us, hl with | [_, _], _ => rfl⟩
set_option maxHeartbeats 0 in
theorem all_mk {P : Program} {w : World} {K : PySem.W.Frag} {h : Heap} {mg : PySem.Str → Option Value} {fa : Addr} (X : K.In h) (G : h.Ns mainGlobals mg) (hfa : mg "law" = some (.ref fa))
    {f_is_within : Addr} {od_is_within an_is_within : Option Addr} {sl_is_within : Array (Option Value)} {oc_is_within kV_is_within dc_is_within pm_is_within cd_is_within ct_is_within : Value}
    (a_is_within : PySem.W.nsIn K mainGlobals "is_within" = some (some (.ref f_is_within))) (l_is_within : K.lookup f_is_within = some ⟨oc_is_within, od_is_within, .func (PySem.W.fnOf "is_within" "is_within" (defArgs s_is_within) (defBody s_is_within) (defScope s_is_within) .none kV_is_within dc_is_within pm_is_within an_is_within cd_is_within ct_is_within), sl_is_within⟩) (c_is_within : PySem.W.codeIn K cd_is_within "is_within" = true) (k_is_within : PySem.W.keepIn K (.ref f_is_within) = true)
    {f_is_item : Addr} {od_is_item an_is_item : Option Addr} {sl_is_item : Array (Option Value)} {oc_is_item kV_is_item dc_is_item pm_is_item cd_is_item ct_is_item : Value}
    (a_is_item : PySem.W.nsIn K mainGlobals "is_item" = some (some (.ref f_is_item))) (l_is_item : K.lookup f_is_item = some ⟨oc_is_item, od_is_item, .func (PySem.W.fnOf "is_item" "is_item" (defArgs s_is_item) (defBody s_is_item) (defScope s_is_item) .none kV_is_item dc_is_item pm_is_item an_is_item cd_is_item ct_is_item), sl_is_item⟩) (c_is_item : PySem.W.codeIn K cd_is_item "is_item" = true) (k_is_item : PySem.W.keepIn K (.ref f_is_item) = true)
    {f_is_command : Addr} {od_is_command an_is_command : Option Addr} {sl_is_command : Array (Option Value)} {oc_is_command kV_is_command dc_is_command pm_is_command cd_is_command ct_is_command : Value}
    (a_is_command : PySem.W.nsIn K mainGlobals "is_command" = some (some (.ref f_is_command))) (l_is_command : K.lookup f_is_command = some ⟨oc_is_command, od_is_command, .func (PySem.W.fnOf "is_command" "is_command" (defArgs s_is_command) (defBody s_is_command) (defScope s_is_command) .none kV_is_command dc_is_command pm_is_command an_is_command cd_is_command ct_is_command), sl_is_command⟩) (c_is_command : PySem.W.codeIn K cd_is_command "is_command" = true) (k_is_command : PySem.W.keepIn K (.ref f_is_command) = true)
    {f_is_script : Addr} {od_is_script an_is_script : Option Addr} {sl_is_script : Array (Option Value)} {oc_is_script kV_is_script dc_is_script pm_is_script cd_is_script ct_is_script : Value}
    (a_is_script : PySem.W.nsIn K mainGlobals "is_script" = some (some (.ref f_is_script))) (l_is_script : K.lookup f_is_script = some ⟨oc_is_script, od_is_script, .func (PySem.W.fnOf "is_script" "is_script" (defArgs s_is_script) (defBody s_is_script) (defScope s_is_script) .none kV_is_script dc_is_script pm_is_script an_is_script cd_is_script ct_is_script), sl_is_script⟩) (c_is_script : PySem.W.codeIn K cd_is_script "is_script" = true) (k_is_script : PySem.W.keepIn K (.ref f_is_script) = true)
    {f_require_script : Addr} {od_require_script an_require_script : Option Addr} {sl_require_script : Array (Option Value)} {oc_require_script kV_require_script dc_require_script pm_require_script cd_require_script ct_require_script : Value}
    (a_require_script : PySem.W.nsIn K mainGlobals "require_script" = some (some (.ref f_require_script))) (l_require_script : K.lookup f_require_script = some ⟨oc_require_script, od_require_script, .func (PySem.W.fnOf "require_script" "require_script" (defArgs s_require_script) (defBody s_require_script) (defScope s_require_script) .none kV_require_script dc_require_script pm_require_script an_require_script cd_require_script ct_require_script), sl_require_script⟩) (c_require_script : PySem.W.codeIn K cd_require_script "require_script" = true) (k_require_script : PySem.W.keepIn K (.ref f_require_script) = true)
    {f_require_item : Addr} {od_require_item an_require_item : Option Addr} {sl_require_item : Array (Option Value)} {oc_require_item kV_require_item dc_require_item pm_require_item cd_require_item ct_require_item : Value}
    (a_require_item : PySem.W.nsIn K mainGlobals "require_item" = some (some (.ref f_require_item))) (l_require_item : K.lookup f_require_item = some ⟨oc_require_item, od_require_item, .func (PySem.W.fnOf "require_item" "require_item" (defArgs s_require_item) (defBody s_require_item) (defScope s_require_item) .none kV_require_item dc_require_item pm_require_item an_require_item cd_require_item ct_require_item), sl_require_item⟩) (c_require_item : PySem.W.codeIn K cd_require_item "require_item" = true) (k_require_item : PySem.W.keepIn K (.ref f_require_item) = true)
    {f_named_items : Addr} {od_named_items an_named_items : Option Addr} {sl_named_items : Array (Option Value)} {oc_named_items kV_named_items dc_named_items pm_named_items cd_named_items ct_named_items : Value}
    (a_named_items : PySem.W.nsIn K mainGlobals "named_items" = some (some (.ref f_named_items))) (l_named_items : K.lookup f_named_items = some ⟨oc_named_items, od_named_items, .func (PySem.W.fnOf "named_items" "named_items" (defArgs s_named_items) (defBody s_named_items) (defScope s_named_items) .none kV_named_items dc_named_items pm_named_items an_named_items cd_named_items ct_named_items), sl_named_items⟩) (c_named_items : PySem.W.codeIn K cd_named_items "named_items" = true) (k_named_items : PySem.W.keepIn K (.ref f_named_items) = true)
    {f_played : Addr} {od_played an_played : Option Addr} {sl_played : Array (Option Value)} {oc_played kV_played dc_played pm_played cd_played ct_played : Value}
    (a_played : PySem.W.nsIn K mainGlobals "played" = some (some (.ref f_played))) (l_played : K.lookup f_played = some ⟨oc_played, od_played, .func (PySem.W.fnOf "played" "played" (defArgs s_played) (defBody s_played) (defScope s_played) .none kV_played dc_played pm_played an_played cd_played ct_played), sl_played⟩) (c_played : PySem.W.codeIn K cd_played "played" = true) (k_played : PySem.W.keepIn K (.ref f_played) = true)
    {f_fenced : Addr} {od_fenced an_fenced : Option Addr} {sl_fenced : Array (Option Value)} {oc_fenced kV_fenced dc_fenced pm_fenced cd_fenced ct_fenced : Value}
    (a_fenced : PySem.W.nsIn K mainGlobals "fenced" = some (some (.ref f_fenced))) (l_fenced : K.lookup f_fenced = some ⟨oc_fenced, od_fenced, .func (PySem.W.fnOf "fenced" "fenced" (defArgs s_fenced) (defBody s_fenced) (defScope s_fenced) .none kV_fenced dc_fenced pm_fenced an_fenced cd_fenced ct_fenced), sl_fenced⟩) (c_fenced : PySem.W.codeIn K cd_fenced "fenced" = true) (k_fenced : PySem.W.keepIn K (.ref f_fenced) = true)
    {f_between_fences : Addr} {od_between_fences an_between_fences : Option Addr} {sl_between_fences : Array (Option Value)} {oc_between_fences kV_between_fences dc_between_fences pm_between_fences cd_between_fences ct_between_fences : Value}
    (a_between_fences : PySem.W.nsIn K mainGlobals "between_fences" = some (some (.ref f_between_fences))) (l_between_fences : K.lookup f_between_fences = some ⟨oc_between_fences, od_between_fences, .func (PySem.W.fnOf "between_fences" "between_fences" (defArgs s_between_fences) (defBody s_between_fences) (defScope s_between_fences) .none kV_between_fences dc_between_fences pm_between_fences an_between_fences cd_between_fences ct_between_fences), sl_between_fences⟩) (c_between_fences : PySem.W.codeIn K cd_between_fences "between_fences" = true) (k_between_fences : PySem.W.keepIn K (.ref f_between_fences) = true)
    {f_effect_of : Addr} {od_effect_of an_effect_of : Option Addr} {sl_effect_of : Array (Option Value)} {oc_effect_of kV_effect_of dc_effect_of pm_effect_of cd_effect_of ct_effect_of : Value}
    (a_effect_of : PySem.W.nsIn K mainGlobals "effect_of" = some (some (.ref f_effect_of))) (l_effect_of : K.lookup f_effect_of = some ⟨oc_effect_of, od_effect_of, .func (PySem.W.fnOf "effect_of" "effect_of" (defArgs s_effect_of) (defBody s_effect_of) (defScope s_effect_of) .none kV_effect_of dc_effect_of pm_effect_of an_effect_of cd_effect_of ct_effect_of), sl_effect_of⟩) (c_effect_of : PySem.W.codeIn K cd_effect_of "effect_of" = true) (k_effect_of : PySem.W.keepIn K (.ref f_effect_of) = true)
    {f_replaced : Addr} {od_replaced an_replaced : Option Addr} {sl_replaced : Array (Option Value)} {oc_replaced kV_replaced dc_replaced pm_replaced cd_replaced ct_replaced : Value}
    (a_replaced : PySem.W.nsIn K mainGlobals "replaced" = some (some (.ref f_replaced))) (l_replaced : K.lookup f_replaced = some ⟨oc_replaced, od_replaced, .func (PySem.W.fnOf "replaced" "replaced" (defArgs s_replaced) (defBody s_replaced) (defScope s_replaced) .none kV_replaced dc_replaced pm_replaced an_replaced cd_replaced ct_replaced), sl_replaced⟩) (c_replaced : PySem.W.codeIn K cd_replaced "replaced" = true) (k_replaced : PySem.W.keepIn K (.ref f_replaced) = true)
    {f_sources_of : Addr} {od_sources_of an_sources_of : Option Addr} {sl_sources_of : Array (Option Value)} {oc_sources_of kV_sources_of dc_sources_of pm_sources_of cd_sources_of ct_sources_of : Value}
    (a_sources_of : PySem.W.nsIn K mainGlobals "sources_of" = some (some (.ref f_sources_of))) (l_sources_of : K.lookup f_sources_of = some ⟨oc_sources_of, od_sources_of, .func (PySem.W.fnOf "sources_of" "sources_of" (defArgs s_sources_of) (defBody s_sources_of) (defScope s_sources_of) .none kV_sources_of dc_sources_of pm_sources_of an_sources_of cd_sources_of ct_sources_of), sl_sources_of⟩) (c_sources_of : PySem.W.codeIn K cd_sources_of "sources_of" = true) (k_sources_of : PySem.W.keepIn K (.ref f_sources_of) = true)
    {f_block_of : Addr} {od_block_of an_block_of : Option Addr} {sl_block_of : Array (Option Value)} {oc_block_of kV_block_of dc_block_of pm_block_of cd_block_of ct_block_of : Value}
    (a_block_of : PySem.W.nsIn K mainGlobals "block_of" = some (some (.ref f_block_of))) (l_block_of : K.lookup f_block_of = some ⟨oc_block_of, od_block_of, .func (PySem.W.fnOf "block_of" "block_of" (defArgs s_block_of) (defBody s_block_of) (defScope s_block_of) .none kV_block_of dc_block_of pm_block_of an_block_of cd_block_of ct_block_of), sl_block_of⟩) (c_block_of : PySem.W.codeIn K cd_block_of "block_of" = true) (k_block_of : PySem.W.keepIn K (.ref f_block_of) = true)
    {f_source_of : Addr} {od_source_of an_source_of : Option Addr} {sl_source_of : Array (Option Value)} {oc_source_of kV_source_of dc_source_of pm_source_of cd_source_of ct_source_of : Value}
    (a_source_of : PySem.W.nsIn K mainGlobals "source_of" = some (some (.ref f_source_of))) (l_source_of : K.lookup f_source_of = some ⟨oc_source_of, od_source_of, .func (PySem.W.fnOf "source_of" "source_of" (defArgs s_source_of) (defBody s_source_of) (defScope s_source_of) .none kV_source_of dc_source_of pm_source_of an_source_of cd_source_of ct_source_of), sl_source_of⟩) (c_source_of : PySem.W.codeIn K cd_source_of "source_of" = true) (k_source_of : PySem.W.keepIn K (.ref f_source_of) = true)
    {f_blocks_of : Addr} {od_blocks_of an_blocks_of : Option Addr} {sl_blocks_of : Array (Option Value)} {oc_blocks_of kV_blocks_of dc_blocks_of pm_blocks_of cd_blocks_of ct_blocks_of : Value}
    (a_blocks_of : PySem.W.nsIn K mainGlobals "blocks_of" = some (some (.ref f_blocks_of))) (l_blocks_of : K.lookup f_blocks_of = some ⟨oc_blocks_of, od_blocks_of, .func (PySem.W.fnOf "blocks_of" "blocks_of" (defArgs s_blocks_of) (defBody s_blocks_of) (defScope s_blocks_of) .none kV_blocks_of dc_blocks_of pm_blocks_of an_blocks_of cd_blocks_of ct_blocks_of), sl_blocks_of⟩) (c_blocks_of : PySem.W.codeIn K cd_blocks_of "blocks_of" = true) (k_blocks_of : PySem.W.keepIn K (.ref f_blocks_of) = true)
    {f_same_blocks : Addr} {od_same_blocks an_same_blocks : Option Addr} {sl_same_blocks : Array (Option Value)} {oc_same_blocks kV_same_blocks dc_same_blocks pm_same_blocks cd_same_blocks ct_same_blocks : Value}
    (a_same_blocks : PySem.W.nsIn K mainGlobals "same_blocks" = some (some (.ref f_same_blocks))) (l_same_blocks : K.lookup f_same_blocks = some ⟨oc_same_blocks, od_same_blocks, .func (PySem.W.fnOf "same_blocks" "same_blocks" (defArgs s_same_blocks) (defBody s_same_blocks) (defScope s_same_blocks) .none kV_same_blocks dc_same_blocks pm_same_blocks an_same_blocks cd_same_blocks ct_same_blocks), sl_same_blocks⟩) (c_same_blocks : PySem.W.codeIn K cd_same_blocks "same_blocks" = true) (k_same_blocks : PySem.W.keepIn K (.ref f_same_blocks) = true)
    {f__law_bag : Addr} {od__law_bag an__law_bag : Option Addr} {sl__law_bag : Array (Option Value)} {oc__law_bag kV__law_bag dc__law_bag pm__law_bag cd__law_bag ct__law_bag : Value}
    (a__law_bag : PySem.W.nsIn K mainGlobals "_law_bag" = some (some (.ref f__law_bag))) (l__law_bag : K.lookup f__law_bag = some ⟨oc__law_bag, od__law_bag, .func (PySem.W.fnOf "_law_bag" "_law_bag" (defArgs s__law_bag) (defBody s__law_bag) (defScope s__law_bag) .none kV__law_bag dc__law_bag pm__law_bag an__law_bag cd__law_bag ct__law_bag), sl__law_bag⟩) (c__law_bag : PySem.W.codeIn K cd__law_bag "_law_bag" = true) (k__law_bag : PySem.W.keepIn K (.ref f__law_bag) = true)
    {f__law_pick : Addr} {od__law_pick an__law_pick : Option Addr} {sl__law_pick : Array (Option Value)} {oc__law_pick kV__law_pick dc__law_pick pm__law_pick cd__law_pick ct__law_pick : Value}
    (a__law_pick : PySem.W.nsIn K mainGlobals "_law_pick" = some (some (.ref f__law_pick))) (l__law_pick : K.lookup f__law_pick = some ⟨oc__law_pick, od__law_pick, .func (PySem.W.fnOf "_law_pick" "_law_pick" (defArgs s__law_pick) (defBody s__law_pick) (defScope s__law_pick) .none kV__law_pick dc__law_pick pm__law_pick an__law_pick cd__law_pick ct__law_pick), sl__law_pick⟩) (c__law_pick : PySem.W.codeIn K cd__law_pick "_law_pick" = true) (k__law_pick : PySem.W.keepIn K (.ref f__law_pick) = true)
    {f__law_items : Addr} {od__law_items an__law_items : Option Addr} {sl__law_items : Array (Option Value)} {oc__law_items kV__law_items dc__law_items pm__law_items cd__law_items ct__law_items : Value}
    (a__law_items : PySem.W.nsIn K mainGlobals "_law_items" = some (some (.ref f__law_items))) (l__law_items : K.lookup f__law_items = some ⟨oc__law_items, od__law_items, .func (PySem.W.fnOf "_law_items" "_law_items" (defArgs s__law_items) (defBody s__law_items) (defScope s__law_items) .none kV__law_items dc__law_items pm__law_items an__law_items cd__law_items ct__law_items), sl__law_items⟩) (c__law_items : PySem.W.codeIn K cd__law_items "_law_items" = true) (k__law_items : PySem.W.keepIn K (.ref f__law_items) = true)
    {f__law_script : Addr} {od__law_script an__law_script : Option Addr} {sl__law_script : Array (Option Value)} {oc__law_script kV__law_script dc__law_script pm__law_script cd__law_script ct__law_script : Value}
    (a__law_script : PySem.W.nsIn K mainGlobals "_law_script" = some (some (.ref f__law_script))) (l__law_script : K.lookup f__law_script = some ⟨oc__law_script, od__law_script, .func (PySem.W.fnOf "_law_script" "_law_script" (defArgs s__law_script) (defBody s__law_script) (defScope s__law_script) .none kV__law_script dc__law_script pm__law_script an__law_script cd__law_script ct__law_script), sl__law_script⟩) (c__law_script : PySem.W.codeIn K cd__law_script "_law_script" = true) (k__law_script : PySem.W.keepIn K (.ref f__law_script) = true)
    {f__law_case : Addr} {od__law_case an__law_case : Option Addr} {sl__law_case : Array (Option Value)} {oc__law_case kV__law_case dc__law_case pm__law_case cd__law_case ct__law_case : Value}
    (a__law_case : PySem.W.nsIn K mainGlobals "_law_case" = some (some (.ref f__law_case))) (l__law_case : K.lookup f__law_case = some ⟨oc__law_case, od__law_case, .func (PySem.W.fnOf "_law_case" "_law_case" (defArgs s__law_case) (defBody s__law_case) (defScope s__law_case) .none kV__law_case dc__law_case pm__law_case an__law_case cd__law_case ct__law_case), sl__law_case⟩) (c__law_case : PySem.W.codeIn K cd__law_case "_law_case" = true) (k__law_case : PySem.W.keepIn K (.ref f__law_case) = true)
    {f__law_moved : Addr} {od__law_moved an__law_moved : Option Addr} {sl__law_moved : Array (Option Value)} {oc__law_moved kV__law_moved dc__law_moved pm__law_moved cd__law_moved ct__law_moved : Value}
    (a__law_moved : PySem.W.nsIn K mainGlobals "_law_moved" = some (some (.ref f__law_moved))) (l__law_moved : K.lookup f__law_moved = some ⟨oc__law_moved, od__law_moved, .func (PySem.W.fnOf "_law_moved" "_law_moved" (defArgs s__law_moved) (defBody s__law_moved) (defScope s__law_moved) .none kV__law_moved dc__law_moved pm__law_moved an__law_moved cd__law_moved ct__law_moved), sl__law_moved⟩) (c__law_moved : PySem.W.codeIn K cd__law_moved "_law_moved" = true) (k__law_moved : PySem.W.keepIn K (.ref f__law_moved) = true)
    {f__law_done : Addr} {od__law_done an__law_done : Option Addr} {sl__law_done : Array (Option Value)} {oc__law_done kV__law_done dc__law_done pm__law_done cd__law_done ct__law_done : Value}
    (a__law_done : PySem.W.nsIn K mainGlobals "_law_done" = some (some (.ref f__law_done))) (l__law_done : K.lookup f__law_done = some ⟨oc__law_done, od__law_done, .func (PySem.W.fnOf "_law_done" "_law_done" (defArgs s__law_done) (defBody s__law_done) (defScope s__law_done) .none kV__law_done dc__law_done pm__law_done an__law_done cd__law_done ct__law_done), sl__law_done⟩) (c__law_done : PySem.W.codeIn K cd__law_done "_law_done" = true) (k__law_done : PySem.W.keepIn K (.ref f__law_done) = true)
    {f__law_named : Addr} {od__law_named an__law_named : Option Addr} {sl__law_named : Array (Option Value)} {oc__law_named kV__law_named dc__law_named pm__law_named cd__law_named ct__law_named : Value}
    (a__law_named : PySem.W.nsIn K mainGlobals "_law_named" = some (some (.ref f__law_named))) (l__law_named : K.lookup f__law_named = some ⟨oc__law_named, od__law_named, .func (PySem.W.fnOf "_law_named" "_law_named" (defArgs s__law_named) (defBody s__law_named) (defScope s__law_named) .none kV__law_named dc__law_named pm__law_named an__law_named cd__law_named ct__law_named), sl__law_named⟩) (c__law_named : PySem.W.codeIn K cd__law_named "_law_named" = true) (k__law_named : PySem.W.keepIn K (.ref f__law_named) = true)
    {f__law_blocks : Addr} {od__law_blocks an__law_blocks : Option Addr} {sl__law_blocks : Array (Option Value)} {oc__law_blocks kV__law_blocks dc__law_blocks pm__law_blocks cd__law_blocks ct__law_blocks : Value}
    (a__law_blocks : PySem.W.nsIn K mainGlobals "_law_blocks" = some (some (.ref f__law_blocks))) (l__law_blocks : K.lookup f__law_blocks = some ⟨oc__law_blocks, od__law_blocks, .func (PySem.W.fnOf "_law_blocks" "_law_blocks" (defArgs s__law_blocks) (defBody s__law_blocks) (defScope s__law_blocks) .none kV__law_blocks dc__law_blocks pm__law_blocks an__law_blocks cd__law_blocks ct__law_blocks), sl__law_blocks⟩) (c__law_blocks : PySem.W.codeIn K cd__law_blocks "_law_blocks" = true) (k__law_blocks : PySem.W.keepIn K (.ref f__law_blocks) = true)
    {f__law_lines_right : Addr} {od__law_lines_right an__law_lines_right : Option Addr} {sl__law_lines_right : Array (Option Value)} {oc__law_lines_right kV__law_lines_right dc__law_lines_right pm__law_lines_right cd__law_lines_right ct__law_lines_right : Value}
    (a__law_lines_right : PySem.W.nsIn K mainGlobals "_law_lines_right" = some (some (.ref f__law_lines_right))) (l__law_lines_right : K.lookup f__law_lines_right = some ⟨oc__law_lines_right, od__law_lines_right, .func (PySem.W.fnOf "_law_lines_right" "_law_lines_right" (defArgs s__law_lines_right) (defBody s__law_lines_right) (defScope s__law_lines_right) .none kV__law_lines_right dc__law_lines_right pm__law_lines_right an__law_lines_right cd__law_lines_right ct__law_lines_right), sl__law_lines_right⟩) (c__law_lines_right : PySem.W.codeIn K cd__law_lines_right "_law_lines_right" = true) (k__law_lines_right : PySem.W.keepIn K (.ref f__law_lines_right) = true)
    {f__law_other : Addr} {od__law_other an__law_other : Option Addr} {sl__law_other : Array (Option Value)} {oc__law_other kV__law_other dc__law_other pm__law_other cd__law_other ct__law_other : Value}
    (a__law_other : PySem.W.nsIn K mainGlobals "_law_other" = some (some (.ref f__law_other))) (l__law_other : K.lookup f__law_other = some ⟨oc__law_other, od__law_other, .func (PySem.W.fnOf "_law_other" "_law_other" (defArgs s__law_other) (defBody s__law_other) (defScope s__law_other) .none kV__law_other dc__law_other pm__law_other an__law_other cd__law_other ct__law_other), sl__law_other⟩) (c__law_other : PySem.W.codeIn K cd__law_other "_law_other" = true) (k__law_other : PySem.W.keepIn K (.ref f__law_other) = true)
    {f_law : Addr} {od_law an_law : Option Addr} {sl_law : Array (Option Value)} {oc_law kV_law dc_law pm_law cd_law ct_law : Value}
    (a_law : PySem.W.nsIn K mainGlobals "law" = some (some (.ref f_law))) (l_law : K.lookup f_law = some ⟨oc_law, od_law, .func (PySem.W.fnOf "law" "law" (defArgs s_law) (defBody s_law) (defScope s_law) .none kV_law dc_law pm_law an_law cd_law ct_law), sl_law⟩) (c_law : PySem.W.codeIn K cd_law "law" = true) (k_law : PySem.W.keepIn K (.ref f_law) = true)
    {t_MOST_ITEMS : Tok} (a_MOST_ITEMS : PySem.W.nsIn K mainGlobals "MOST_ITEMS" = some (some (.int 60 t_MOST_ITEMS)))
    {t_MOST_COMMANDS : Tok} (a_MOST_COMMANDS : PySem.W.nsIn K mainGlobals "MOST_COMMANDS" = some (some (.int 200 t_MOST_COMMANDS)))
    {t_FENCE : Tok} (a_FENCE : PySem.W.nsIn K mainGlobals "FENCE" = some (some (.int (-1) t_FENCE)))
    {q_WORDS : Addr} {o_WORDS : Obj} {i_WORDS : Array Value} {n_WORDS : Nat} (a_WORDS : PySem.W.nsIn K mainGlobals "WORDS" = some (some (.ref q_WORDS))) (l_WORDS : K.lookup q_WORDS = some o_WORDS) (x_WORDS : o_WORDS.cls = .type "tuple") (y_WORDS : o_WORDS.data = .seq i_WORDS n_WORDS) (u_WORDS : i_WORDS.size ≤ sizeLine) (v_WORDS : i_WORDS.toList.map absV = [some (.str "behind"), some (.str "before")])
    (z_isinstance : PySem.W.nsIn K mainGlobals "isinstance" = some none)
    (z_int : PySem.W.nsIn K mainGlobals "int" = some none)
    (z_bool : PySem.W.nsIn K mainGlobals "bool" = some none)
    (z_tuple : PySem.W.nsIn K mainGlobals "tuple" = some none)
    (z_str : PySem.W.nsIn K mainGlobals "str" = some none)
    (z_len : PySem.W.nsIn K mainGlobals "len" = some none)
    (z_all : PySem.W.nsIn K mainGlobals "all" = some none)
    (z_sorted : PySem.W.nsIn K mainGlobals "sorted" = some none)
    (z_list : PySem.W.nsIn K mainGlobals "list" = some none)
    (z_range : PySem.W.nsIn K mainGlobals "range" = some none)
    (z_max : PySem.W.nsIn K mainGlobals "max" = some none)
    (z_repr : PySem.W.nsIn K mainGlobals "repr" = some none)
    (z_zip : PySem.W.nsIn K mainGlobals "zip" = some none)
    (z_dict : PySem.W.nsIn K mainGlobals "dict" = some none)
    (z_sum : PySem.W.nsIn K mainGlobals "sum" = some none) :
    ∃ fd : FuncData, (∀ (s : Shared) (v : Value), BindsTo s fd ⟨[v], []⟩ [("script", v)]) ∧ ∀ base : Heap, K.In base → base.Ns mainGlobals mg → FnG P w K mg base 7 fa fd ["script"] (lawS K) := by
  have e := hfa.symm.trans (PySem.W.mg_of X G a_law)
  cases e
  have F_is_within := fun_mk (st := s_is_within) l_is_within c_is_within k_is_within
  have D_is_within := df_is_within F_is_within (PySem.W.mg_of X G a_is_within)
  have F_is_item := fun_mk (st := s_is_item) l_is_item c_is_item k_is_item
  have D_is_item := df_is_item F_is_item (PySem.W.mg_of X G a_is_item)
  have F_is_command := fun_mk (st := s_is_command) l_is_command c_is_command k_is_command
  have D_is_command := df_is_command F_is_command (PySem.W.mg_of X G a_is_command)
  have F_is_script := fun_mk (st := s_is_script) l_is_script c_is_script k_is_script
  have D_is_script := df_is_script F_is_script (PySem.W.mg_of X G a_is_script)
  have F_require_script := fun_mk (st := s_require_script) l_require_script c_require_script k_require_script
  have D_require_script := df_require_script F_require_script (PySem.W.mg_of X G a_require_script)
  have F_require_item := fun_mk (st := s_require_item) l_require_item c_require_item k_require_item
  have D_require_item := df_require_item F_require_item (PySem.W.mg_of X G a_require_item)
  have F_named_items := fun_mk (st := s_named_items) l_named_items c_named_items k_named_items
  have D_named_items := df_named_items F_named_items (PySem.W.mg_of X G a_named_items)
  have F_played := fun_mk (st := s_played) l_played c_played k_played
  have D_played := df_played F_played (PySem.W.mg_of X G a_played)
  have F_fenced := fun_mk (st := s_fenced) l_fenced c_fenced k_fenced
  have D_fenced := df_fenced F_fenced (PySem.W.mg_of X G a_fenced)
  have F_between_fences := fun_mk (st := s_between_fences) l_between_fences c_between_fences k_between_fences
  have D_between_fences := df_between_fences F_between_fences (PySem.W.mg_of X G a_between_fences)
  have F_effect_of := fun_mk (st := s_effect_of) l_effect_of c_effect_of k_effect_of
  have D_effect_of := df_effect_of F_effect_of (PySem.W.mg_of X G a_effect_of)
  have F_replaced := fun_mk (st := s_replaced) l_replaced c_replaced k_replaced
  have D_replaced := df_replaced F_replaced (PySem.W.mg_of X G a_replaced)
  have F_sources_of := fun_mk (st := s_sources_of) l_sources_of c_sources_of k_sources_of
  have D_sources_of := df_sources_of F_sources_of (PySem.W.mg_of X G a_sources_of)
  have F_block_of := fun_mk (st := s_block_of) l_block_of c_block_of k_block_of
  have D_block_of := df_block_of F_block_of (PySem.W.mg_of X G a_block_of)
  have F_source_of := fun_mk (st := s_source_of) l_source_of c_source_of k_source_of
  have D_source_of := df_source_of F_source_of (PySem.W.mg_of X G a_source_of)
  have F_blocks_of := fun_mk (st := s_blocks_of) l_blocks_of c_blocks_of k_blocks_of
  have D_blocks_of := df_blocks_of F_blocks_of (PySem.W.mg_of X G a_blocks_of)
  have F_same_blocks := fun_mk (st := s_same_blocks) l_same_blocks c_same_blocks k_same_blocks
  have D_same_blocks := df_same_blocks F_same_blocks (PySem.W.mg_of X G a_same_blocks)
  have F__law_bag := fun_mk (st := s__law_bag) l__law_bag c__law_bag k__law_bag
  have D__law_bag := df__law_bag F__law_bag (PySem.W.mg_of X G a__law_bag)
  have F__law_pick := fun_mk (st := s__law_pick) l__law_pick c__law_pick k__law_pick
  have D__law_pick := df__law_pick F__law_pick (PySem.W.mg_of X G a__law_pick)
  have F__law_items := fun_mk (st := s__law_items) l__law_items c__law_items k__law_items
  have D__law_items := df__law_items F__law_items (PySem.W.mg_of X G a__law_items)
  have F__law_script := fun_mk (st := s__law_script) l__law_script c__law_script k__law_script
  have D__law_script := df__law_script F__law_script (PySem.W.mg_of X G a__law_script)
  have F__law_case := fun_mk (st := s__law_case) l__law_case c__law_case k__law_case
  have D__law_case := df__law_case F__law_case (PySem.W.mg_of X G a__law_case)
  have F__law_moved := fun_mk (st := s__law_moved) l__law_moved c__law_moved k__law_moved
  have D__law_moved := df__law_moved F__law_moved (PySem.W.mg_of X G a__law_moved)
  have F__law_done := fun_mk (st := s__law_done) l__law_done c__law_done k__law_done
  have D__law_done := df__law_done F__law_done (PySem.W.mg_of X G a__law_done)
  have F__law_named := fun_mk (st := s__law_named) l__law_named c__law_named k__law_named
  have D__law_named := df__law_named F__law_named (PySem.W.mg_of X G a__law_named)
  have F__law_blocks := fun_mk (st := s__law_blocks) l__law_blocks c__law_blocks k__law_blocks
  have D__law_blocks := df__law_blocks F__law_blocks (PySem.W.mg_of X G a__law_blocks)
  have F__law_lines_right := fun_mk (st := s__law_lines_right) l__law_lines_right c__law_lines_right k__law_lines_right
  have D__law_lines_right := df__law_lines_right F__law_lines_right (PySem.W.mg_of X G a__law_lines_right)
  have F__law_other := fun_mk (st := s__law_other) l__law_other c__law_other k__law_other
  have D__law_other := df__law_other F__law_other (PySem.W.mg_of X G a__law_other)
  have F_law := fun_mk (st := s_law) l_law c_law k_law
  have y_isinstance := PySem.W.mg_none_of X G z_isinstance
  have y_int := PySem.W.mg_none_of X G z_int
  have y_bool := PySem.W.mg_none_of X G z_bool
  have y_tuple := PySem.W.mg_none_of X G z_tuple
  have y_str := PySem.W.mg_none_of X G z_str
  have y_len := PySem.W.mg_none_of X G z_len
  have y_all := PySem.W.mg_none_of X G z_all
  have y_sorted := PySem.W.mg_none_of X G z_sorted
  have y_list := PySem.W.mg_none_of X G z_list
  have y_range := PySem.W.mg_none_of X G z_range
  have y_max := PySem.W.mg_none_of X G z_max
  have y_repr := PySem.W.mg_none_of X G z_repr
  have y_zip := PySem.W.mg_none_of X G z_zip
  have y_dict := PySem.W.mg_none_of X G z_dict
  have y_sum := PySem.W.mg_none_of X G z_sum
  have g_MOST_ITEMS := PySem.W.mg_of X G a_MOST_ITEMS
  have g_MOST_COMMANDS := PySem.W.mg_of X G a_MOST_COMMANDS
  have g_FENCE := PySem.W.mg_of X G a_FENCE
  have g_WORDS := PySem.W.mg_of X G a_WORDS
  refine ⟨PySem.W.fnOf "law" "law" (defArgs s_law) (defBody s_law) (defScope s_law) .none kV_law dc_law pm_law an_law cd_law ct_law, fun s v => .of_eq rfl, fun base _ _ => ?_⟩
  have hW : ∀ H, SqT K H q_WORDS [.str "behind", .str "before"] := fun H => .inr ⟨o_WORDS, i_WORDS, n_WORDS, l_WORDS, x_WORDS, y_WORDS, u_WORDS, words_vals v_WORDS⟩
  have C_is_item := ok_is_item1 (base := base) (P := P) (w := w) (z := fun _ _ _ _ => True) (ok_is_item D_is_item (ok_is_within D_is_within y_isinstance y_int y_bool) g_MOST_ITEMS)
  have C_is_command := ok_is_command D_is_command C_is_item y_isinstance y_tuple y_len y_str g_WORDS hW
  have C_is_script := ok_is_script D_is_script C_is_command y_isinstance y_tuple y_len y_all g_MOST_COMMANDS
  have C_require := ok_require_script D_require_script C_is_script
  have C_reqitem := ok_require_item D_require_item C_is_item
  have C_named_items := ok_named_items (P := P) (w := w) (base := base) D_named_items y_sorted
  have C_played := ok_played (P := P) (w := w) (base := base) D_played y_list
  have C_fenced := ok_fenced (P := P) (w := w) (base := base) D_fenced g_FENCE
  have C_between := ok_between_fences (P := P) (w := w) (base := base) D_between_fences y_tuple g_FENCE
  have C_effect := ok_effect_of D_effect_of C_named_items C_played C_fenced C_between y_zip
  have C_replaced := ok_replaced (P := P) (w := w) (base := base) D_replaced y_tuple
  have C_sources := ok_sources_of (P := P) (w := w) (base := base) D_sources_of
  have C_block := ok_block_of D_block_of C_require C_reqitem C_effect C_replaced
  have C_source := ok_source_of D_source_of C_require C_reqitem C_effect C_sources
  have C_blocks := ok_blocks_of D_blocks_of C_require C_effect
  have C_same := ok_same_blocks D_same_blocks C_require C_effect C_replaced y_all y_range g_MOST_ITEMS
  have C_bag := ok_law_bag (P := P) (w := w) (base := base) D__law_bag y_max
  have C_pick := ok_law_pick (P := P) (w := w) (base := base) D__law_pick
  have C_items := ok_law_items D__law_items C_pick y_list y_range y_len
  have C_script := ok_law_script D__law_script C_pick y_tuple y_range y_len y_int
  have C_case := ok_law_case D__law_case C_pick C_items C_script y_tuple y_range y_len y_list
  have C_moved := ok_law_moved (P := P) (w := w) (base := base) D__law_moved y_tuple
  have C_done := ok_law_done D__law_done C_moved
  have C_named := ok_law_named (P := P) (w := w) (base := base) D__law_named y_sorted
  have C_lblocks := ok_law_blocks D__law_blocks C_named y_dict y_tuple y_int
  have C_lines := ok_law_lines_right D__law_lines_right C_pick C_named C_done y_range y_len y_list y_tuple y_sum
  have C_other := ok_law_other D__law_other C_pick C_items C_script y_len y_list y_tuple y_int
  exact ok_law F_law C_bag C_pick C_case C_lblocks C_lines C_blocks C_block C_source C_other C_same y_repr y_range y_list y_len
end K04
open PySem PySem.W PyProof.Rows
set_option maxHeartbeats 0 in
theorem PySem.Challenge.cw_moveafter_k04_blocks_holds : PySem.Challenge.rw_moveafter_k04_blocks.Holds := by
  w_on; o_law; k_head; (case hw => w_witness2)
  k_fill
  refine MA.walk_ofG (l := PySem.Challenge.rw_moveafter_k04_blocks) (n := 63) (k := 7) (x := "script") (sp := fun w => K04.lawS _) rfl (by decide) rfl ⟨rfl, by decide, by decide⟩ (fun w h Y => PySem.W.kIn_of Y) ?F (fun _ _ a ns hl _ hS => ⟨a, ns, rfl, Nat.le_trans hl (by decide), hS, fun _ => rfl⟩)
  case F =>
    intro w mg fa h KX G hmg
    refine' K04.all_mk KX G hmg ?a_is_within ?l_is_within ?c_is_within ?k_is_within ?a_is_item ?l_is_item ?c_is_item ?k_is_item ?a_is_command ?l_is_command ?c_is_command ?k_is_command ?a_is_script ?l_is_script ?c_is_script ?k_is_script ?a_require_script ?l_require_script ?c_require_script ?k_require_script ?a_require_item ?l_require_item ?c_require_item ?k_require_item ?a_named_items ?l_named_items ?c_named_items ?k_named_items ?a_played ?l_played ?c_played ?k_played ?a_fenced ?l_fenced ?c_fenced ?k_fenced ?a_between_fences ?l_between_fences ?c_between_fences ?k_between_fences ?a_effect_of ?l_effect_of ?c_effect_of ?k_effect_of ?a_replaced ?l_replaced ?c_replaced ?k_replaced ?a_sources_of ?l_sources_of ?c_sources_of ?k_sources_of ?a_block_of ?l_block_of ?c_block_of ?k_block_of ?a_source_of ?l_source_of ?c_source_of ?k_source_of ?a_blocks_of ?l_blocks_of ?c_blocks_of ?k_blocks_of ?a_same_blocks ?l_same_blocks ?c_same_blocks ?k_same_blocks ?a__law_bag ?l__law_bag ?c__law_bag ?k__law_bag ?a__law_pick ?l__law_pick ?c__law_pick ?k__law_pick ?a__law_items ?l__law_items ?c__law_items ?k__law_items ?a__law_script ?l__law_script ?c__law_script ?k__law_script ?a__law_case ?l__law_case ?c__law_case ?k__law_case ?a__law_moved ?l__law_moved ?c__law_moved ?k__law_moved ?a__law_done ?l__law_done ?c__law_done ?k__law_done ?a__law_named ?l__law_named ?c__law_named ?k__law_named ?a__law_blocks ?l__law_blocks ?c__law_blocks ?k__law_blocks ?a__law_lines_right ?l__law_lines_right ?c__law_lines_right ?k__law_lines_right ?a__law_other ?l__law_other ?c__law_other ?k__law_other ?a_law ?l_law ?c_law ?k_law ?a_MOST_ITEMS ?a_MOST_COMMANDS ?a_FENCE ?a_WORDS ?l_WORDS ?x_WORDS ?y_WORDS ?u_WORDS ?v_WORDS ?z_isinstance ?z_int ?z_bool ?z_tuple ?z_str ?z_len ?z_all ?z_sorted ?z_list ?z_range ?z_max ?z_repr ?z_zip ?z_dict ?z_sum
    (case a_is_within => k_is)
    (case l_is_within => k_is)
    (case c_is_within => k_is)
    (case k_is_within => k_is)
    (case a_is_item => k_is)
    (case l_is_item => k_is)
    (case c_is_item => k_is)
    (case k_is_item => k_is)
    (case a_is_command => k_is)
    (case l_is_command => k_is)
    (case c_is_command => k_is)
    (case k_is_command => k_is)
    (case a_is_script => k_is)
    (case l_is_script => k_is)
    (case c_is_script => k_is)
    (case k_is_script => k_is)
    (case a_require_script => k_is)
    (case l_require_script => k_is)
    (case c_require_script => k_is)
    (case k_require_script => k_is)
    (case a_require_item => k_is)
    (case l_require_item => k_is)
    (case c_require_item => k_is)
    (case k_require_item => k_is)
    (case a_named_items => k_is)
    (case l_named_items => k_is)
    (case c_named_items => k_is)
    (case k_named_items => k_is)
    (case a_played => k_is)
    (case l_played => k_is)
    (case c_played => k_is)
    (case k_played => k_is)
    (case a_fenced => k_is)
    (case l_fenced => k_is)
    (case c_fenced => k_is)
    (case k_fenced => k_is)
    (case a_between_fences => k_is)
    (case l_between_fences => k_is)
    (case c_between_fences => k_is)
    (case k_between_fences => k_is)
    (case a_effect_of => k_is)
    (case l_effect_of => k_is)
    (case c_effect_of => k_is)
    (case k_effect_of => k_is)
    (case a_replaced => k_is)
    (case l_replaced => k_is)
    (case c_replaced => k_is)
    (case k_replaced => k_is)
    (case a_sources_of => k_is)
    (case l_sources_of => k_is)
    (case c_sources_of => k_is)
    (case k_sources_of => k_is)
    (case a_block_of => k_is)
    (case l_block_of => k_is)
    (case c_block_of => k_is)
    (case k_block_of => k_is)
    (case a_source_of => k_is)
    (case l_source_of => k_is)
    (case c_source_of => k_is)
    (case k_source_of => k_is)
    (case a_blocks_of => k_is)
    (case l_blocks_of => k_is)
    (case c_blocks_of => k_is)
    (case k_blocks_of => k_is)
    (case a_same_blocks => k_is)
    (case l_same_blocks => k_is)
    (case c_same_blocks => k_is)
    (case k_same_blocks => k_is)
    (case a__law_bag => k_is)
    (case l__law_bag => k_is)
    (case c__law_bag => k_is)
    (case k__law_bag => k_is)
    (case a__law_pick => k_is)
    (case l__law_pick => k_is)
    (case c__law_pick => k_is)
    (case k__law_pick => k_is)
    (case a__law_items => k_is)
    (case l__law_items => k_is)
    (case c__law_items => k_is)
    (case k__law_items => k_is)
    (case a__law_script => k_is)
    (case l__law_script => k_is)
    (case c__law_script => k_is)
    (case k__law_script => k_is)
    (case a__law_case => k_is)
    (case l__law_case => k_is)
    (case c__law_case => k_is)
    (case k__law_case => k_is)
    (case a__law_moved => k_is)
    (case l__law_moved => k_is)
    (case c__law_moved => k_is)
    (case k__law_moved => k_is)
    (case a__law_done => k_is)
    (case l__law_done => k_is)
    (case c__law_done => k_is)
    (case k__law_done => k_is)
    (case a__law_named => k_is)
    (case l__law_named => k_is)
    (case c__law_named => k_is)
    (case k__law_named => k_is)
    (case a__law_blocks => k_is)
    (case l__law_blocks => k_is)
    (case c__law_blocks => k_is)
    (case k__law_blocks => k_is)
    (case a__law_lines_right => k_is)
    (case l__law_lines_right => k_is)
    (case c__law_lines_right => k_is)
    (case k__law_lines_right => k_is)
    (case a__law_other => k_is)
    (case l__law_other => k_is)
    (case c__law_other => k_is)
    (case k__law_other => k_is)
    (case a_law => k_is)
    (case l_law => k_is)
    (case c_law => k_is)
    (case k_law => k_is)
    (case a_MOST_ITEMS => k_is)
    (case a_MOST_COMMANDS => k_is)
    (case a_FENCE => k_is)
    (case a_WORDS => k_is)
    (case l_WORDS => k_is)
    (case x_WORDS => first | rfl | decide +kernel | k_is)
    (case y_WORDS => first | rfl | decide +kernel | k_is)
    (case u_WORDS => first | rfl | decide +kernel | k_is)
    (case v_WORDS => first | rfl | decide +kernel | k_is)
    (case z_isinstance => k_is)
    (case z_int => k_is)
    (case z_bool => k_is)
    (case z_tuple => k_is)
    (case z_str => k_is)
    (case z_len => k_is)
    (case z_all => k_is)
    (case z_sorted => k_is)
    (case z_list => k_is)
    (case z_range => k_is)
    (case z_max => k_is)
    (case z_repr => k_is)
    (case z_zip => k_is)
    (case z_dict => k_is)
    (case z_sum => k_is)

