import PyProof.Rows.All
import Wide.All
import OpenK.AllK
import Wide.FinOn
import HandS.ForMost
import HandS.ForExc
import HandS.Evl
import HandS.IsInst
import HandS.EndBits
import HandS.Conv
import HandS.Flow
import HandS.Style
import HandS.RaiseMore
import HandS.TupAny
import HandS.TupMul
import HandS.Strs
import HandS.SetBool
import HandS.Walk
import KE.KRevSl
import PyProof.EnumMake
import PyProof.Draws
import HandS.Zip0
import HandS.SetFor
import HandS.SortInts
import PyProof.ReprLen
import PyProof.Rows.ReprOcc
import HandS.DictComp
import KE.KMathG
import HandS.Gcd
import PySem.Challenge.RW_moveafter_k35_effects_counted
set_option Elab.async false
set_option linter.all false
set_option maxRecDepth 100000
set_option maxHeartbeats 2000000
namespace MA
open PySem PySem.Spec PyProof.Rows L2

/-! ## plain data in the abstract heap -/
def kD : Key → PyData
  | .inl i => .int i
  | .inr x => .str x
def zipK : List (Key × V) → List PyData → List (PyData × PyData)
  | (k, _) :: r, d :: ds => (kD k, d) :: zipK r ds
  | _, _ => []
mutual
inductive Dq (K : PySem.W.Frag) (H : Hp) : V → PyData → Prop
  | non : Dq K H .non .none
  | bl (b : Bool) : Dq K H (.bl b) (.bool b)
  | int (i : Int) : Dq K H (.int i) (.int i)
  | str (x : Str) : Dq K H (.str x) (.str x)
  | lst {a : Addr} {xs : List V} {ds : List PyData} (h : H a = some (.lst xs)) (q : DqAll K H xs ds) : Dq K H (.ref a) (.list ds)
  | tup {a : Addr} {xs : List V} {ds : List PyData} (h : SqT K H a xs) (q : DqAll K H xs ds) : Dq K H (.ref a) (.tuple ds)
  | dct {a : Addr} {kvs : List (Key × V)} {ds : List PyData} (h : H a = some (.dK kvs)) (q : DqAll K H (kvs.map (·.2)) ds) : Dq K H (.ref a) (.dict (zipK kvs ds))
inductive DqAll (K : PySem.W.Frag) (H : Hp) : List V → List PyData → Prop
  | nil : DqAll K H [] []
  | cons {v : V} {vs : List V} {d : PyData} {ds : List PyData} (h : Dq K H v d) (q : DqAll K H vs ds) : DqAll K H (v :: vs) (d :: ds)
end
abbrev Ex := Evl.Ex
theorem Ex.refl (H : Hp) : Ex H H := fun _ _ h => h
theorem Ex.trans {H H1 H2 : Hp} (a : Ex H H1) (b : Ex H1 H2) : Ex H H2 := fun x o h => b x o (a x o h)
section
variable {K : PySem.W.Frag} {H H' : Hp}
mutual
theorem Dq.mono (e : Ex H H') : ∀ {v : V} {d : PyData}, Dq K H v d → Dq K H' v d
  | _, _, .non => .non
  | _, _, .bl b => .bl b
  | _, _, .int i => .int i
  | _, _, .str x => .str x
  | _, _, .lst h q => .lst (e _ _ h) (DqAll.mono e q)
  | _, _, .tup h q => .tup (Evl.ex_t e h) (DqAll.mono e q)
  | _, _, .dct h q => .dct (e _ _ h) (DqAll.mono e q)
theorem DqAll.mono (e : Ex H H') : ∀ {vs : List V} {ds : List PyData}, DqAll K H vs ds → DqAll K H' vs ds
  | _, _, .nil => .nil
  | _, _, .cons h q => .cons (Dq.mono e h) (DqAll.mono e q)
end
theorem DqAll.length : ∀ {vs : List V} {ds : List PyData}, DqAll K H vs ds → vs.length = ds.length
  | _, _, .nil => rfl
  | _, _, .cons _ q => congrArg (· + 1) (DqAll.length q)
theorem DqAll.append : ∀ {vs ws : List V} {ds es : List PyData}, DqAll K H vs ds → DqAll K H ws es → DqAll K H (vs ++ ws) (ds ++ es)
  | _, _, _, _, .nil, q => q
  | _, _, _, _, .cons h q, r => .cons h (DqAll.append q r)
theorem DqAll.get : ∀ {vs : List V} {ds : List PyData} {i : Nat} {v : V}, DqAll K H vs ds → vs[i]? = some v → ∃ d, ds[i]? = some d ∧ Dq K H v d
  | _, _, i, _, .nil, e => by simp at e
  | _, _, 0, _, .cons h _, e => by simp at e; subst e; exact ⟨_, rfl, h⟩
  | _, _, i + 1, v, .cons _ q, e => by
    obtain ⟨d, h1, h2⟩ := DqAll.get (i := i) (v := v) q (by simpa using e)
    exact ⟨d, by simpa using h1, h2⟩
theorem DqAll.get' : ∀ {vs : List V} {ds : List PyData} {i : Nat} {d : PyData}, DqAll K H vs ds → ds[i]? = some d → ∃ v, vs[i]? = some v ∧ Dq K H v d
  | _, _, i, _, .nil, e => by simp at e
  | _, _, 0, _, .cons h _, e => by simp at e; subst e; exact ⟨_, rfl, h⟩
  | _, _, i + 1, v, .cons _ q, e => by
    obtain ⟨d, h1, h2⟩ := DqAll.get' (i := i) (d := v) q (by simpa using e)
    exact ⟨d, by simpa using h1, h2⟩
theorem DqAll.take : ∀ {vs : List V} {ds : List PyData} (n : Nat), DqAll K H vs ds → DqAll K H (vs.take n) (ds.take n)
  | _, _, 0, _ => .nil
  | _, _, _ + 1, .nil => .nil
  | _, _, n + 1, .cons h q => .cons h (DqAll.take n q)
theorem DqAll.drop : ∀ {vs : List V} {ds : List PyData} (n : Nat), DqAll K H vs ds → DqAll K H (vs.drop n) (ds.drop n)
  | _, _, 0, q => q
  | _, _, _ + 1, .nil => .nil
  | _, _, n + 1, .cons _ q => DqAll.drop n q
theorem DqAll.reverse {vs : List V} {ds : List PyData} (q : DqAll K H vs ds) : DqAll K H vs.reverse ds.reverse := by
  induction vs generalizing ds with
  | nil => cases q; exact .nil
  | cons v vs ih =>
    cases q with
    | cons h q =>
      rw [List.reverse_cons, List.reverse_cons]
      exact (ih q).append (.cons h .nil)
theorem DqAll.rep {v : V} {d : PyData} (h : Dq K H v d) : ∀ n : Nat, DqAll K H (List.replicate n v) (List.replicate n d)
  | 0 => .nil
  | n + 1 => .cons h (DqAll.rep h n)
theorem DqAll.flatRep {vs : List V} {ds : List PyData} (q : DqAll K H vs ds) : ∀ n : Nat, DqAll K H (List.replicate n vs).flatten (List.replicate n ds).flatten
  | 0 => .nil
  | n + 1 => q.append (DqAll.flatRep q n)
theorem dqInts : ∀ ns : List Int, DqAll K H (ns.map V.int) (ns.map PyData.int)
  | [] => .nil
  | n :: r => .cons (.int n) (dqInts r)
theorem dqBls : ∀ ns : List Bool, DqAll K H (ns.map V.bl) (ns.map PyData.bool)
  | [] => .nil
  | n :: r => .cons (.bl n) (dqBls r)
theorem dqStrs : ∀ ns : List Str, DqAll K H (ns.map V.str) (ns.map PyData.str)
  | [] => .nil
  | n :: r => .cons (.str n) (dqStrs r)
theorem ofInts : ∀ {vs : List V} {ns : List Int}, DqAll K H vs (ns.map PyData.int) → vs = ns.map V.int
  | [], [], _ => rfl
  | _ :: _, [], q => by cases q
  | [], _ :: _, q => by cases q
  | _ :: _, n :: ns, q => by
    cases q with
    | cons h q =>
      cases h
      exact congrArg _ (ofInts q)
theorem ofBls : ∀ {vs : List V} {ns : List Bool}, DqAll K H vs (ns.map PyData.bool) → vs = ns.map V.bl
  | [], [], _ => rfl
  | _ :: _, [], q => by cases q
  | [], _ :: _, q => by cases q
  | _ :: _, n :: ns, q => by
    cases q with
    | cons h q =>
      cases h
      exact congrArg _ (ofBls q)
theorem ofStrs : ∀ {vs : List V} {ns : List Str}, DqAll K H vs (ns.map PyData.str) → vs = ns.map V.str
  | [], [], _ => rfl
  | _ :: _, [], q => by cases q
  | [], _ :: _, q => by cases q
  | _ :: _, n :: ns, q => by
    cases q with
    | cons h q =>
      cases h
      exact congrArg _ (ofStrs q)
end

/-! ## the order of worlds: B what is known for good, H the heap; M the lists that may change -/
structure Le (M : List Addr) (B H B' H' : Hp) : Prop where
  b : Ex B B'
  h : Ex B' H'
  k : ∀ a o, a ∉ M → H a = some o → H' a = some o
  t : ∀ a, H a ≠ none → H' a ≠ none
  n : ∀ a, B a = none → B' a ≠ none → H a = none
section
variable {M : List Addr} {B H B1 H1 B2 H2 : Hp}
theorem Le.refl (h : Ex B H) : Le M B H B H := ⟨Ex.refl B, h, fun _ _ _ e => e, fun _ e => e, fun _ e e' => absurd e e'⟩
theorem Le.trans (x : Le M B H B1 H1) (y : Le M B1 H1 B2 H2) : Le M B H B2 H2 := by
  refine ⟨x.b.trans y.b, y.h, fun a o ha e => y.k a o ha (x.k a o ha e), fun a e => y.t a (x.t a e), fun a e e2 => ?_⟩
  by_cases z : B1 a = none
  · have w := y.n a z e2
    cases q : H a with
    | none => rfl
    | some o => exact absurd w (x.t a (by rw [q]; simp))
  · exact x.n a e z
theorem Le.wk {M' : List Addr} (x : Le M B H B1 H1) (h : ∀ a ∈ M, a ∈ M') : Le M' B H B1 H1 := ⟨x.b, x.h, fun a o ha e => x.k a o (fun m => ha (h a m)) e, x.t, x.n⟩
theorem Le.any (x : Le [] B H B1 H1) : Le M B H B1 H1 := x.wk fun _ m => nomatch m
theorem Le.ex (x : Le [] B H B1 H1) : Ex H H1 := fun a o e => x.k a o (by simp) e
/-- what is not known for good stays so where it is there -/
theorem Le.own (x : Le M B H B1 H1) {p : Addr} {o : HO} (hp : H p = some o) (hb : B p = none) : B1 p = none := by
  cases q : B1 p with
  | none => rfl
  | some z => 
    have := x.n p hb (by rw [q]; simp)
    rw [hp] at this
    cases this
theorem Le.new {p : Addr} {o : HO} (h : Ex B H) (hp : H p = none) : Le M B H (upd B p o) (upd H p o) := by
  have hb : B p = none := by
    cases q : B p with
    | none => rfl
    | some z => rw [h p z q] at hp; cases hp
  refine ⟨Evl.Ex.new hb, fun a u e => ?_, fun a u _ e => Evl.Ex.new hp a u e, fun a e => ?_, fun a e e2 => ?_⟩
  · unfold upd at e ⊢
    split at e
    · rename_i z; rw [if_pos z]; exact e
    · rename_i z; rw [if_neg z]; exact h a u e
  · unfold upd
    split
    · simp
    · exact e
  · unfold upd at e2
    split at e2
    · rename_i z; rw [z]; exact hp
    · exact absurd e e2
/-- a list of ours is made: it is not known for good -/
theorem Le.made {p : Addr} {o : HO} (h : Ex B H) (hp : H p = none) : Le M B H B (upd H p o) := by
  refine ⟨Ex.refl B, fun a u e => Evl.Ex.new hp a u (h a u e), fun a u _ e => Evl.Ex.new hp a u e, fun a e => ?_, fun a e e2 => absurd e e2⟩
  unfold upd
  split
  · simp
  · exact e
/-- a list of ours is changed -/
theorem Le.put {p : Addr} {o : HO} (h : Ex B H) (hb : B p = none) (hM : p ∈ M) : Le M B H B (upd H p o) := by
  refine ⟨Ex.refl B, fun a u e => ?_, fun a u ha e => ?_, fun a e => ?_, fun a e e2 => absurd e e2⟩
  · have : a ≠ p := fun z => by rw [z, hb] at e; cases e
    rw [upd_ne this]; exact h a u e
  · have : a ≠ p := fun z => ha (z ▸ hM)
    rw [upd_ne this]; exact e
  · unfold upd
    split
    · simp
    · exact e
/-- a list of ours is given away: known for good from now on -/
theorem ex_give {p : Addr} {o : HO} (h : Ex B H) (hp : H p = some o) : Ex (upd B p o) H := fun a u e => by
  unfold upd at e
  split at e
  · rename_i z; cases e; rw [z]; exact hp
  · exact h a u e
theorem Le.give {B0 H0 : Hp} {p : Addr} {o : HO} (x : Le M B0 H0 B H) (h0 : H0 p = none) (hb : B p = none) (hp : H p = some o) : Le M B0 H0 (upd B p o) H := by
  refine ⟨x.b.trans (Evl.Ex.new hb), ex_give x.h hp, x.k, x.t, fun a e e2 => ?_⟩
  by_cases z : a = p
  · rw [z]; exact h0
  · rw [upd_ne z] at e2; exact x.n a e e2
end
end MA

set_option maxRecDepth 100000
set_option maxHeartbeats 2000000
namespace MA
open PySem PySem.Spec PyProof.Rows L2

/-! ## what is read of plain data -/
mutual
def noList : PyData → Bool
  | .list _ => false
  | .tuple xs => noListAll xs
  | .dict kvs => noListKv kvs
  | _ => true
def noListAll : List PyData → Bool
  | [] => true
  | x :: xs => noList x && noListAll xs
def noListKv : List (PyData × PyData) → Bool
  | [] => true
  | (_, v) :: r => noList v && noListKv r
end
section
variable {X : Cx} {pins : List (Addr × Obj)} {σ : L2.St} {H : Hp} {s : Shared}
theorem zipK_fst : ∀ {kvs : List (Key × V)} {ds : List PyData}, kvs.length = ds.length → (zipK kvs ds).map (·.1) = kvs.map (kD ·.1)
  | [], [], _ => rfl
  | (k, v) :: r, d :: ds, h => by
    show kD k :: (zipK r ds).map (·.1) = _
    rw [zipK_fst (by simpa using h)]
    rfl
  | [], _ :: _, h => by simp at h
  | _ :: _, [], h => by simp at h
theorem zipK_snd : ∀ {kvs : List (Key × V)} {ds : List PyData}, kvs.length = ds.length → (zipK kvs ds).map (·.2) = ds
  | [], [], _ => rfl
  | (k, v) :: r, d :: ds, h => by
    show d :: (zipK r ds).map (·.2) = _
    rw [zipK_snd (by simpa using h)]
  | [], _ :: _, h => by simp at h
  | _ :: _, [], h => by simp at h
theorem noListKv_snd : ∀ kvs : List (PyData × PyData), noListKv kvs = noListAll (kvs.map (·.2))
  | [] => by simp [noListKv, noListAll]
  | (k, v) :: r => by simp [noListKv, noListAll, noListKv_snd r]
theorem reads_keys {h : Heap} : ∀ {es : List DictEntry} {kvs : List (Key × V)} {vs : List (Key × Value)}, Pairs (mixKind X.prog X.w) es vs → KV kvs vs → ReadsAll h (es.map (·.key)) (kvs.map (kD ·.1)) []
  | [], _, _, p, r => by
    cases p
    cases r
    exact .nil
  | e :: es, _, _, p, r => by
    cases p with
    | cons p1 p2 p3 =>
      cases r with
      | cons r1 r2 =>
        rename_i a l
        have e1 : a.1 = _ := r1.1
        have q := reads_keys (h := h) p3 r2
        have z : Reads h e.key (kD a.1) [] := by
          rw [e1]
          rcases keyIs_shape (show keyIs _ e.key = true from p1) with ⟨i, t, z1, z2⟩ | ⟨x, t, z1, z2⟩
          · rw [z1, z2]; exact .int i t
          · rw [z1, z2]; exact .str x t
        exact ReadsAll.cons (as := []) (bs := []) z q
theorem vals_pairs : ∀ {es : List DictEntry} {kvs : List (Key × V)} {vs : List (Key × Value)}, Pairs (mixKind X.prog X.w) es vs → KV kvs vs → Vals (kvs.map (·.2)) (es.map (·.val))
  | [], _, _, p, r => by
    cases p
    cases r
    exact .nil
  | e :: es, _, _, p, r => by
    cases p with
    | cons p1 p2 p3 =>
      cases r with
      | cons r1 r2 => exact .cons (by show RelV _ e.val; rw [p2]; exact r1.2) (vals_pairs p3 r2)
theorem append_ne {as bs : List Addr} (h1 : ∀ b ∈ as, (b == sysModules) = false) (h2 : ∀ b ∈ bs, (b == sysModules) = false) : ∀ b ∈ as ++ bs, (b == sysModules) = false := fun b hb => (List.mem_append.mp hb).elim (h1 b) (h2 b)
mutual
theorem Dq.reads (I : Inv X pins σ H s) : ∀ {v : V} {d : PyData} {u : Value}, Dq X.K H v d → RelV v u → ∃ as, Reads s.heap u d as ∧ (noList d = true → ∀ b ∈ as, (b == sysModules) = false)
  | _, _, _, .non, r => by
    cases r
    exact ⟨_, Reads.none, fun _ b hb => by cases hb⟩
  | _, _, _, .bl b, r => by
    cases r
    exact ⟨_, Reads.bool b, fun _ b hb => by cases hb⟩
  | _, _, _, .int i, r => by
    obtain ⟨t, rfl⟩ := r
    exact ⟨_, Reads.int i t, fun _ b hb => by cases hb⟩
  | _, _, _, .str x, r => by
    obtain ⟨t, rfl⟩ := r
    exact ⟨_, Reads.str x t, fun _ b hb => by cases hb⟩
  | _, _, _, .lst h q, r => by
    cases r
    obtain ⟨its, rv, ⟨o, n, ho, hc, _, hd⟩, _⟩ := I.list (.inl (.inl h))
    obtain ⟨as, hr, _⟩ := DqAll.reads I q rv
    exact ⟨_, Reads.list ho hc hd hr, fun z => by simp [noList] at z⟩
  | _, _, _, .tup h q, r => by
    cases r
    obtain ⟨its, rv, ⟨o, ho, hc, n, hd⟩, _⟩ := I.tuple h
    obtain ⟨as, hr, hn⟩ := DqAll.reads I q rv
    exact ⟨_, Reads.tuple ho hc hd hr, fun z => hn (by simpa [noList] using z)⟩
  | _, _, _, .dct (kvs := kvs) (ds := ds) h q, r => by
    cases r
    obtain ⟨_, hne, vs, rv, o, es, ep, ho, hx, hd, _, hp, _⟩ := I.hok _ _ h
    obtain ⟨as, hr, hn⟩ := DqAll.reads I q (vals_pairs hp rv)
    have hl : kvs.length = ds.length := by
      have e := q.length
      rw [List.length_map] at e
      exact e
    have hk := reads_keys (h := s.heap) hp rv
    refine ⟨_, Reads.dict ho hx.1 hd (kvs := zipK kvs ds) (as := []) (bs := as) ?_ ?_, fun z b hb => ?_⟩
    · rw [zipK_fst hl]; exact hk
    · rw [zipK_snd hl]; exact hr
    · simp only [noList, noListKv_snd, zipK_snd hl] at z
      rcases List.mem_cons.mp hb with e | hb
      · rw [e]; exact hne
      · exact hn z b (by simpa using hb)
theorem DqAll.reads (I : Inv X pins σ H s) : ∀ {vs : List V} {ds : List PyData} {us : List Value}, DqAll X.K H vs ds → Vals vs us → ∃ as, ReadsAll s.heap us ds as ∧ (noListAll ds = true → ∀ b ∈ as, (b == sysModules) = false)
  | _, _, _, .nil, r => by
    cases r
    exact ⟨_, ReadsAll.nil, fun _ b hb => by cases hb⟩
  | _, _, _, .cons h q, r => by
    cases r with
    | cons r1 r2 =>
      obtain ⟨as, q1, n1⟩ := Dq.reads I h r1
      obtain ⟨bs, q2, n2⟩ := DqAll.reads I q r2
      refine ⟨_, ReadsAll.cons q1 q2, fun z => ?_⟩
      simp only [noListAll, Bool.and_eq_true] at z
      exact append_ne (n1 z.1) (n2 z.2)
end
end
section
variable {X : Cx}
/-- repr of plain data, where no repr is under way -/
def rRepr (K : PySem.W.Frag) : List V → Hp → VK → Prop := fun xs H Q => ∃ (x : V) (d : PyData), xs = [x] ∧ Dq K H x d ∧ d.showable = true ∧ (d.hasDict = false ∨ noList d = true) ∧ d.shown.length ≤ sizeLine ∧ d.depth ≤ 60 ∧ Q (.str d.shown) H
theorem call_repr (hg : X.A.guards = some []) (hu : X.A.units + 64 < cLine) : CallR X (.builtin "repr") (rRepr X.K) := by
  intro pins s σ H xs us Q I r h
  obtain ⟨x, d, rfl, hx, hs, hn, hz, hd, q⟩ := h
  obtain ⟨u, rfl, ru⟩ := vals1 r
  obtain ⟨as, hr, ha⟩ := Dq.reads I hx ru
  have hsm : d.hasDict = true → sysModules ∉ as := fun e => by
    rcases hn with z | z
    · rw [z] at e; cases e
    · intro m
      have := ha z _ m
      simp at this
  have fin : ∀ h' u tk, (∀ b o, s.heap.get? b = some o → h'.get? b = some o) → EP X pins σ Q (.str d.shown u) { s with heap := h', toks := tk } := fun h' u tk hk =>
    ⟨.str d.shown, H, I.kept hk, ⟨u, rfl⟩, q⟩
  cases hx with
  | non => cases ru; exact PySem.P.repr_of_none (fin s.heap _ _ fun _ _ e => e)
  | bl b => cases ru; exact PySem.P.repr_of_bool (by have := fin s.heap s.toks (s.toks + 1) fun _ _ e => e; simpa only [PyData.shown] using this)
  | int i => obtain ⟨t, rfl⟩ := ru; exact PySem.P.repr_of_int (by simpa [PyData.showable] using hs) (by have := fin s.heap s.toks (s.toks + 1) fun _ _ e => e; simpa only [PyData.shown] using this)
  | str y => obtain ⟨t, rfl⟩ := ru; exact PySem.P.repr_of_str (by have := fin s.heap s.toks (s.toks + 1) fun _ _ e => e; simpa only [PyData.shown] using this) (by simpa only [PyData.shown] using hz)
  | lst h1 h2 => cases ru; exact repr_of_reads' hr hs hsm hg (by omega) (fun _ _ e => e) fin hz
  | tup h1 h2 => cases ru; exact repr_of_reads' hr hs hsm hg (by omega) (fun _ _ e => e) fin hz
  | dct h1 h2 => cases ru; exact repr_of_reads' hr hs hsm hg (by omega) (fun _ _ e => e) fin hz
end
end MA

set_option maxRecDepth 100000
set_option maxHeartbeats 2000000
namespace MA
open PySem PySem.Spec PyProof.Rows L2

/-! ## the law's own call: no repr is under way around it -/
/-- the promise of a def whose caller has no repr under way -/
def FnG (P : Program) (w : World) (K : PySem.W.Frag) (mg : Str → Option Value) (base : Heap) (k : Nat) (f : Addr) (fd : FuncData) (ps : List Str) (sp : Sp) : Prop :=
  ∀ (A : Around) (outer : List Env) (s : Shared) (H : Hp) (us : List Value) (vs : List V) (Q : VK), A.guards = some [] → Room k A → Env0 P w K mg base A outer s H →
    BindsTo s fd ⟨us, []⟩ (ps.zip us) → Vals vs us → vs.length = ps.length → sp vs H Q E0 → codeAny (model P w) A (.call (.ref f) ⟨us, []⟩) (CR CX0 outer P w H s Q E0) s
section
variable {P : Program} {w : World} {K : PySem.W.Frag} {mg : Str → Option Value} {base : Heap}
theorem fnG {x qual : Str} {st : Stmt} {f : Addr} {fd : FuncData} {N ps : List Str} {k : Nat} {sp : Sp} (F : Fun K x qual st f fd) (S : FnScope N ps (defScope st))
    (hb : ∀ (cdv : Value) (A : Around) (outer : List Env) (s : Shared) (H : Hp) (vs : List V) (Q : VK), A.guards = some [] → Room k (A.deeper (envOfC qual (defScope st) s.heap.objs.size f cdv)) → sp vs H Q E0 →
      ∃ t, PSs (cxOf CX0 P w K mg base N qual (defScope st) f cdv A outer s H E0).nox (defBody st) t ∧ t { nx := fun _ H' => Q .non H', rt := Q } (start N vs) H) : FnG P w K mg base (k + 1) f fd ps sp := by
  obtain ⟨oc, od, kV, doc, pm, an, cdv, ct, osl, rfl, lk, hcd⟩ := F.ex
  intro A outer s H us vs Q hg hr e0 hbd rv hln hsp
  have kin : K.In s.heap := e0.mod.kin.keeps fun b o e => (e0.bs b o e).1
  refine codeAny_call_function hr.depth (kin _ _ lk) rfl S.co S.gen rfl (PySem.W.codeRec_of kin hcd) (hbd _ _ _ _ ?_)
  refine wpAny_newFunctionEnv_cells S.kind (fun y hy => ?_) fun env hv s1 x1 => ?_
  · rcases S.par y.1 (List.of_mem_zip hy).1 with z | z
    · exact .inl z
    · exact .inr ⟨z, PySem.W.cellsFrom_some _ _ _ (.inl z)⟩
  cases hv
  refine ⟨(e0.mod.nolimit.keeps fun b o e => (e0.bs b o e).1).keeps x1.toInCall.keep, codeAny_func ?_⟩
  obtain ⟨t, ht, hq⟩ := hb cdv A outer s H vs Q hg (hr.deeper _) hsp
  refine wpAny_mono (ht.nox.run [] s1 (start N vs) H _ (inv_start S hr.hd e0 hln rv x1) hq) (fun fl s2 h2 => ?_) fun e s2 h2 => h2
  cases fl with
  | ret u =>
    obtain ⟨v, σ2, H2, J, r2, q2⟩ := h2
    exact ⟨v, H2, J.os, J.bare, J.base, J.hok, r2, q2⟩
  | next =>
    obtain ⟨σ2, H2, J, q2⟩ := h2
    exact ⟨V.non, H2, J.os, J.bare, J.base, J.hok, rfl, q2⟩
  | brk =>
    obtain ⟨_, _, _, q2⟩ := h2
    exact q2.elim
  | cont =>
    obtain ⟨_, _, _, q2⟩ := h2
    exact q2.elim
/-- the abstract heap at the law's entry: the script alone, locked, where the module does not hold it -/
def scriptH (K : PySem.W.Frag) (a : Addr) (vs : List Value) (ns : List Int) : Hp := fun b =>
  if b = a ∧ K.lookup a = none then some (.frz { cls := .type "list", data := .seq vs.toArray } (.lst (ns.map V.int))) else none
theorem scriptH_some {a b : Addr} {vs : List Value} {ns : List Int} {u : HO} (h : scriptH K a vs ns b = some u) : b = a ∧ K.lookup a = none ∧ u = .frz { cls := .type "list", data := .seq vs.toArray } (.lst (ns.map V.int)) := by
  unfold scriptH at h
  split at h
  · rename_i z; cases h; exact ⟨z.1, z.2, rfl⟩
  · cases h
theorem law_callG {mb : Str → Option Value} {k : Nat} {fa a : Addr} {fd : FuncData} {x : Str} {sp : Sp} {s1 : Shared} {vs : List Value} {ns : List Int}
    (kin : K.In s1.heap) (g1 : s1.heap.Ns mainGlobals mg) (g2 : s1.heap.Ns builtinsNs mb) (g3 : ∀ x : Str, x ≠ "__name__" → mb x = bootBuiltins x) (nl : s1.heap.NoLimit) (gn : s1.gens = #[])
    (ha : s1.heap.get? a = some { cls := .type "list", data := .seq vs.toArray }) (hi : IntsAre vs ns) (hl : ns.length ≤ sizeLine) (hr : Room k callerA)
    (F : ∀ base : Heap, K.In base → base.Ns mainGlobals mg → FnG P w K mg base k fa fd [x] sp) (hb : ∀ (s : Shared) (u : Value), BindsTo s fd ⟨[u], []⟩ [(x, u)])
    (hsp : ∀ H : Hp, Only H → SqL K H a (ns.map V.int) → sp [.ref a] H (fun v _ => v = .bl true) E0) :
    codeAny (model P w) callerA (.call (.ref fa) ⟨[.ref a], []⟩) (fun r s' => r = .ok (.ret (.bool true)) ∧ OldK s1.heap s'.heap ∧ s'.os = s1.os ∧ AllBare s'.gens) s1 := by
  have rv := vals_ints hi
  have hle := hi.length
  generalize hH : scriptH K a vs ns = H
  have inH : ∀ {b u}, H b = some u → b = a ∧ K.lookup a = none ∧ u = .frz { cls := .type "list", data := .seq vs.toArray } (.lst (ns.map V.int)) := fun e => scriptH_some (by rw [hH]; exact e)
  have nk : ∀ b o, K.lookup b = some o → H b = none := fun b o e => by
    cases q : H b with
    | none => rfl
    | some u =>
      obtain ⟨z1, z2, _⟩ := inH q
      rw [z1, z2] at e; cases e
  have nd : ∀ {b o es ep}, s1.heap.get? b = some o → o.data = .dict es ep → H b = none := fun {b o es ep} e d => by
    cases q : H b with
    | none => rfl
    | some u =>
      obtain ⟨z1, _, _⟩ := inH q
      rw [z1, ha] at e
      cases e
      cases d
  have ns' : ∀ {b m}, s1.heap.Ns b m → (hidT s1.heap H).Ns b m := fun {b m} ⟨o, es, ep, e, d, z⟩ => ⟨o, es, ep, hidT_get e (nd e d), d, z⟩
  have kb : K.In (hidT s1.heap H) := fun b o e => hidT_get (kin b o e) (nk b o e)
  have ok : HOk P w H s1.heap := fun b u e => by
    obtain ⟨z1, _, z3⟩ := inH e
    subst z1 z3
    exact ⟨ha, by rw [List.length_map]; exact hl, vs, _, rv, ha⟩
  have only : Only H := fun b => by
    cases q : H b with
    | none => exact .inl rfl
    | some u => obtain ⟨_, _, z⟩ := inH q; exact .inr ⟨_, _, by rw [z]⟩
  have sq : SqL K H a (ns.map V.int) := by
    cases q : K.lookup a with
    | none => exact .inl (.inr ⟨{ cls := .type "list", data := .seq vs.toArray }, by rw [← hH]; exact if_pos ⟨rfl, q⟩⟩)
    | some o =>
      have e := kin a o q
      rw [ha] at e
      cases e
      exact .inr ⟨_, vs.toArray, _, q, rfl, rfl, rfl, by rw [List.size_toArray, hle]; exact hl, by simpa using rv⟩
  have md : Mod K mg (hidT s1.heap H) := ⟨kb, ns' g1, ⟨mb, ns' g2, g3⟩, let ⟨mc, h1, h2⟩ := nl; ⟨mc, ns' h1, h2⟩⟩
  have e0 : Env0 P w K mg (hidT s1.heap H) callerA [] s1 H := ⟨rfl, md, fun b o e => of_hidT e, Nat.le_of_eq (hidT_size _ _), trivial, fun b hb => (by cases hb), ok, .of_eq gn⟩
  refine codeAny_mono (F _ kb (ns' g1) callerA [] s1 H [.ref a] [.ref a] _ rfl hr e0 (hb s1 (.ref a)) (.cons rfl .nil) rfl (hsp H only sq)) fun r s2 h2 => ?_
  cases r with
  | error e => exact False.elim h2
  | ok fl =>
    cases fl with
    | next => exact False.elim h2
    | brk => exact False.elim h2
    | cont => exact False.elim h2
    | ret u =>
      obtain ⟨v, H2, os, bare, un, ok2, r2, q2⟩ := h2
      cases (show v = .bl true from q2)
      cases (show u = Value.bool true from r2)
      refine ⟨rfl, OldK.of_keep fun b o e => ?_, os, bare⟩
      cases q : H b with
      | none => exact un.keep b o e q (fun z => (by cases z)) (fun z => (by cases z))
      | some u =>
        obtain ⟨z1, z2, z3⟩ := inH q
        rw [z3] at q
        have w1 := (ok b _ q).1
        have w2 := (ok2 b _ (un.frzs b _ _ q)).1
        rw [e] at w1
        cases w1
        exact w2
end
/-- the end of a law's row, where the law itself may call repr -/
theorem walk_ofG {l : PySem.W.OpenLaw} {n k : Nat} {q : Program} {loose : List Str} {XP : (Str → Option Value) → Heap → Prop} {YP : World → Heap → Prop} {d : DefRec} {K : Params → PySem.W.Frag} {sp : World → Sp} {x : Str}
    (hn : l.most = some n) (hn2 : n ≤ sizeLine) (hdf : d.params.defaults = []) (hr : Room k callerA) (hY : ∀ (w : World) (h : Heap), YP w h → (K w.params).In h)
    (F : ∀ (w : World) (mg : Str → Option Value) (fa : Addr) (h : Heap), (K w.params).In h → h.Ns mainGlobals mg → mg d.name = some (.ref fa) →
      ∃ fd : FuncData, (∀ (s : Shared) (u : Value), BindsTo s fd ⟨[u], []⟩ [(x, u)]) ∧ ∀ base : Heap, (K w.params).In base → base.Ns mainGlobals mg → FnG l.prog w (K w.params) mg base k fa fd [x] (sp w))
    (hsp : ∀ (w : World) (H : Hp) (a : Addr) (ns : List Int), ns.length ≤ n → Only H → SqL (K w.params) H a (ns.map V.int) → sp w [.ref a] H (fun v _ => v = .bl true) E0) :
    PySem.W.WalkO q loose XP YP l.row.toRowW d [] (fun f vs => PySem.call f vs) := by
  refine Att.attach_call hn hdf fun w s0 s1 mg mb fa o pm cd doc a vs ns G Y ho hd hcd hmg hobj hints hlen hg => ?_
  obtain ⟨fd, hb, hF⟩ := F w mg fa _ (hY w _ Y) G.T.g hmg
  exact law_callG (hY w _ Y) G.T.g G.T.b G.T.builtins G.T.nolimit hg hobj hints (Nat.le_trans hlen hn2) hr hF hb fun H h1 h2 => hsp w H a ns hlen h1 h2
end MA

set_option maxRecDepth 100000
set_option maxHeartbeats 2000000
namespace MA
open PySem PySem.Spec PyProof.Rows L2

/-! ## what an expression is worth, in plain data -/
section
variable (K : PySem.W.Frag)
def Ev (te : TE) (σ : L2.St) (B H : Hp) (d : PyData) : Prop := ∀ B1 H1, Le [] B H B1 H1 → ∀ Q : VK, (∀ v B2 H2, Le [] B1 H1 B2 H2 → Dq K B2 v d → Q v H2) → te σ H1 Q
def EvT (t : TT) (σ : L2.St) (B H : Hp) (b : Bool) : Prop := ∀ B1 H1, Le [] B H B1 H1 → ∀ Q : Bool → Hp → Prop, (∀ B2 H2, Le [] B1 H1 B2 H2 → Q b H2) → t σ H1 Q
def EvA (ta : TA) (σ : L2.St) (B H : Hp) (ds : List PyData) : Prop := ∀ B1 H1, Le [] B H B1 H1 → ∀ Q : List V → Hp → Prop, (∀ vs B2 H2, Le [] B1 H1 B2 H2 → DqAll K B2 vs ds → Q vs H2) → ta σ H1 Q
def EvO (t : TO) (σ : L2.St) (B H : Hp) (o : Option Int) : Prop := ∀ B1 H1, Le [] B H B1 H1 → ∀ Q : Option Int → Hp → Prop, (∀ B2 H2, Le [] B1 H1 B2 H2 → Q o H2) → t σ H1 Q
/-- rules by values: an operator, a call -/
def RV (r : R2) (x y z : PyData) : Prop := ∀ B H v u, Ex B H → Dq K B v x → Dq K B u y → ∀ Q : VK, (∀ w B' H', Le [] B H B' H' → Dq K B' w z → Q w H') → r v u H Q
def RU (r : V → Hp → VK → Prop) (x z : PyData) : Prop := ∀ B H v, Ex B H → Dq K B v x → ∀ Q : VK, (∀ w B' H', Le [] B H B' H' → Dq K B' w z → Q w H') → r v H Q
def RC (r : List V → Hp → VK → Prop) (xs : List PyData) (z : PyData) : Prop := ∀ B H vs, Ex B H → DqAll K B vs xs → ∀ Q : VK, (∀ w B' H', Le [] B H B' H' → Dq K B' w z → Q w H') → r vs H Q
def RM (r : V → List V → Hp → VK → Prop) (x : PyData) (xs : List PyData) (z : PyData) : Prop := ∀ B H v vs, Ex B H → Dq K B v x → DqAll K B vs xs → ∀ Q : VK, (∀ w B' H', Le [] B H B' H' → Dq K B' w z → Q w H') → r v vs H Q
def RS (r : V → Option Int → Option Int → Hp → VK → Prop) (x : PyData) (lo hi : Option Int) (z : PyData) : Prop := ∀ B H v, Ex B H → Dq K B v x → ∀ Q : VK, (∀ w B' H', Le [] B H B' H' → Dq K B' w z → Q w H') → r v lo hi H Q
end
section
variable {K : PySem.W.Frag} {σ : L2.St} {B H : Hp} {ta tb te tc : TE} {t u : TT} {a b c d x y z : PyData} {r : R2} {v : V}
theorem Ev.up {B' H' : Hp} (l : Le [] B H B' H') (h : Ev K te σ B H d) : Ev K te σ B' H' d := fun B1 H1 l1 Q q => h B1 H1 (l.trans l1) Q q
theorem EvT.up {B' H' : Hp} {k : Bool} (l : Le [] B H B' H') (h : EvT t σ B H k) : EvT t σ B' H' k := fun B1 H1 l1 Q q => h B1 H1 (l.trans l1) Q q
theorem EvA.up {ta : TA} {ds : List PyData} {B' H' : Hp} (l : Le [] B H B' H') (h : EvA K ta σ B H ds) : EvA K ta σ B' H' ds := fun B1 H1 l1 Q q => h B1 H1 (l.trans l1) Q q
theorem ev_var {i : Nat} (h : σ[i]? = some (some v)) (hd : Dq K B v d) : Ev K (tVar i) σ B H d := fun B1 H1 l Q q => ⟨v, h, q v B1 H1 (Le.refl l.h) (hd.mono l.b)⟩
theorem ev_c (hd : Dq K B v d) : Ev K (tC v) σ B H d := fun B1 H1 l Q q => q v B1 H1 (Le.refl l.h) (hd.mono l.b)
theorem ev_i {i : Int} : Ev K (tC (.int i)) σ B H (.int i) := ev_c (.int i)
theorem ev_s {s : Str} : Ev K (tC (.str s)) σ B H (.str s) := ev_c (.str s)
theorem ev_b {k : Bool} : Ev K (tC (.bl k)) σ B H (.bool k) := ev_c (.bl k)
theorem ev_n : Ev K (tC .non) σ B H .none := ev_c .non
theorem ev_op (ha : Ev K ta σ B H x) (hb : Ev K tb σ B H y) (hr : RV K r x y z) : Ev K (tOp r ta tb) σ B H z := fun B1 H1 l Q q =>
  ha B1 H1 l _ fun v B2 H2 l2 hv => hb B2 H2 (l.trans l2) _ fun w B3 H3 l3 hw => hr B3 H3 v w l3.h (hv.mono l3.b) hw Q fun o B4 H4 l4 ho => q o B4 H4 ((l2.trans l3).trans l4) ho
theorem ev_un {r : V → Hp → VK → Prop} (ha : Ev K ta σ B H x) (hr : RU K r x z) : Ev K (tUn r ta) σ B H z := fun B1 H1 l Q q =>
  ha B1 H1 l _ fun v B2 H2 l2 hv => hr B2 H2 v l2.h hv Q fun o B4 H4 l4 ho => q o B4 H4 (l2.trans l4) ho
theorem ea_nil : EvA K tNil σ B H [] := fun B1 H1 l Q q => q [] B1 H1 (Le.refl l.h) .nil
theorem ea_cons {tr : TA} {ds : List PyData} (ha : Ev K ta σ B H d) (hr : EvA K tr σ B H ds) : EvA K (tCons ta tr) σ B H (d :: ds) := fun B1 H1 l Q q =>
  ha B1 H1 l _ fun v B2 H2 l2 hv => hr B2 H2 (l.trans l2) _ fun vs B3 H3 l3 hs => q (v :: vs) B3 H3 (l2.trans l3) (.cons (hv.mono l3.b) hs)
theorem ev_tup {ts : TA} {ds : List PyData} (h : EvA K ts σ B H ds) (hz : ds.length ≤ sizeLine) : Ev K (tTup ts) σ B H (.tuple ds) := fun B1 H1 l Q q =>
  h B1 H1 l _ fun vs B2 H2 l2 hs => ⟨by rw [hs.length]; exact hz, fun p hp => q (.ref p) _ _ (l2.trans (Le.new l2.h hp)) (.tup (.inl (.inl upd_same)) (hs.mono (Le.new (M := []) l2.h hp).b))⟩
theorem ev_lst {ts : TA} {ds : List PyData} (h : EvA K ts σ B H ds) (hz : ds.length ≤ sizeLine) : Ev K (tLst ts) σ B H (.list ds) := fun B1 H1 l Q q =>
  h B1 H1 l _ fun vs B2 H2 l2 hs => ⟨by rw [hs.length]; exact hz, fun p hp => q (.ref p) _ _ (l2.trans (Le.new l2.h hp)) (.lst upd_same (hs.mono (Le.new (M := []) l2.h hp).b))⟩
theorem ev_cb {rr : List V → Hp → VK → Prop} {ts : TA} {ds : List PyData} (h : EvA K ts σ B H ds) (hr : RC K rr ds z) : Ev K (tCB rr ts) σ B H z := fun B1 H1 l Q q =>
  h B1 H1 l _ fun vs B2 H2 l2 hs => hr B2 H2 vs l2.h hs Q fun o B4 H4 l4 ho => q o B4 H4 (l2.trans l4) ho
theorem ev_sl {rr : V → Option Int → Option Int → Hp → VK → Prop} {tl th : TO} {lo hi : Option Int} (h : Ev K te σ B H x) (h1 : EvO tl σ B H lo) (h2 : EvO th σ B H hi) (hr : RS K rr x lo hi z) : Ev K (tSl rr te tl th) σ B H z := fun B1 H1 l Q q =>
  h B1 H1 l _ fun v B2 H2 l2 hv => h1 B2 H2 (l.trans l2) _ fun B3 H3 l3 => h2 B3 H3 ((l.trans l2).trans l3) _ fun B4 H4 l4 => hr B4 H4 v l4.h ((hv.mono l3.b).mono l4.b) Q fun o B5 H5 l5 ho => q o B5 H5 (((l2.trans l3).trans l4).trans l5) ho
theorem eo_none : EvO tNoPart σ B H none := fun B1 H1 l Q q => q B1 H1 (Le.refl l.h)
theorem eo_some {i : Int} (h : Ev K te σ B H (.int i)) : EvO (tPart te) σ B H (some i) := fun B1 H1 l Q q =>
  h B1 H1 l _ fun v B2 H2 l2 hv => by cases hv; exact ⟨i, rfl, q B2 H2 l2⟩
theorem ev_if {k : Bool} (h : EvT t σ B H k) (h1 : k = true → Ev K ta σ B H d) (h2 : k = false → Ev K tb σ B H d) : Ev K (tIf t ta tb) σ B H d := fun B1 H1 l Q q =>
  h B1 H1 l _ fun B2 H2 l2 => by
    cases k with
    | true => exact h1 rfl B2 H2 (l.trans l2) _ fun v B3 H3 l3 hv => q v B3 H3 (l2.trans l3) hv
    | false => exact h2 rfl B2 H2 (l.trans l2) _ fun v B3 H3 l3 hv => q v B3 H3 (l2.trans l3) hv
/-! tests -/
theorem et_B {k : Bool} (h : Ev K ta σ B H (.bool k)) : EvT (tB ta) σ B H k := fun B1 H1 l Q q => h B1 H1 l _ fun v B2 H2 l2 hv => by cases hv; exact ⟨k, rfl, q B2 H2 l2⟩
theorem et_test {k : Bool} (h : Ev K ta σ B H (.bool k)) : EvT (tTest ta) σ B H k := fun B1 H1 l Q q => h B1 H1 l _ fun v B2 H2 l2 hv => by cases hv; exact ⟨k, rfl, q B2 H2 l2⟩
theorem et_not {k : Bool} (h : EvT t σ B H k) : EvT (tNot t) σ B H (!k) := fun B1 H1 l Q q => h B1 H1 l _ fun B2 H2 l2 => q B2 H2 l2
theorem et_and {k j : Bool} (h1 : EvT t σ B H k) (h2 : k = true → EvT u σ B H j) : EvT (tAnd t u) σ B H (k && j) := fun B1 H1 l Q q => h1 B1 H1 l _ fun B2 H2 l2 => by
  cases k with
  | true => exact h2 rfl B2 H2 (l.trans l2) _ fun B3 H3 l3 => q B3 H3 (l2.trans l3)
  | false => exact q B2 H2 l2
theorem et_or {k j : Bool} (h1 : EvT t σ B H k) (h2 : k = false → EvT u σ B H j) : EvT (tOr t u) σ B H (k || j) := fun B1 H1 l Q q => h1 B1 H1 l _ fun B2 H2 l2 => by
  cases k with
  | true => exact q B2 H2 l2
  | false => exact h2 rfl B2 H2 (l.trans l2) _ fun B3 H3 l3 => q B3 H3 (l2.trans l3)
theorem ev_notV {k : Bool} (h : Ev K ta σ B H (.bool k)) : Ev K (tNotV ta) σ B H (.bool (!k)) := fun B1 H1 l Q q => h B1 H1 l _ fun v B2 H2 l2 hv => by cases hv; exact ⟨k, rfl, q _ B2 H2 l2 (.bl _)⟩
theorem ev_andV {k j : Bool} (h1 : Ev K ta σ B H (.bool k)) (h2 : k = true → Ev K tb σ B H (.bool j)) : Ev K (tAndV ta tb) σ B H (.bool (k && j)) := fun B1 H1 l Q q => h1 B1 H1 l _ fun v B2 H2 l2 hv => by
  cases hv
  refine ⟨k, rfl, ?_⟩
  cases k with
  | true => exact h2 rfl B2 H2 (l.trans l2) _ fun v B3 H3 l3 hv => q v B3 H3 (l2.trans l3) hv
  | false => exact q _ B2 H2 l2 (.bl _)
theorem ev_orV {k j : Bool} (h1 : Ev K ta σ B H (.bool k)) (h2 : k = false → Ev K tb σ B H (.bool j)) : Ev K (tOrV ta tb) σ B H (.bool (k || j)) := fun B1 H1 l Q q => h1 B1 H1 l _ fun v B2 H2 l2 hv => by
  cases hv
  refine ⟨k, rfl, ?_⟩
  cases k with
  | true => exact q _ B2 H2 l2 (.bl _)
  | false => exact h2 rfl B2 H2 (l.trans l2) _ fun v B3 H3 l3 hv => q v B3 H3 (l2.trans l3) hv
theorem ev_chain {r r' : R2} {k j : Bool} (ha : Ev K ta σ B H a) (hb : Ev K tb σ B H b) (hc : k = true → Ev K tc σ B H c) (h1 : RV K r a b (.bool k)) (h2 : k = true → RV K r' b c (.bool j)) : Ev K (tChain r r' ta tb tc) σ B H (.bool (k && j)) := fun B1 H1 l Q q =>
  ha B1 H1 l _ fun v B2 H2 l2 hv => hb B2 H2 (l.trans l2) _ fun w B3 H3 l3 hw => h1 B3 H3 v w l3.h (hv.mono l3.b) hw _ fun o B4 H4 l4 ho => by
    cases ho
    refine ⟨k, rfl, ?_⟩
    have l24 := (l2.trans l3).trans l4
    cases k with
    | true => exact hc rfl B4 H4 (l.trans l24) _ fun y B5 H5 l5 hy => h2 rfl B5 H5 w y l5.h ((hw.mono l4.b).mono l5.b) hy Q fun o B6 H6 l6 ho => q o B6 H6 ((l24.trans l5).trans l6) ho
    | false => exact q _ B4 H4 l24 (.bl _)
theorem et_chain {r r' : R2} {k j : Bool} (ha : Ev K ta σ B H a) (hb : Ev K tb σ B H b) (hc : k = true → Ev K tc σ B H c) (h1 : RV K r a b (.bool k)) (h2 : k = true → RV K r' b c (.bool j)) : EvT (tTest (tChain r r' ta tb tc)) σ B H (k && j) := et_test (ev_chain ha hb hc h1 h2)
/-! ### a def's promise -/
/-- pure: arguments of which Pre holds, an answer of which Post holds; CX0 or an exception: never raised -/
def Pu (K : PySem.W.Frag) (Pre : List PyData → Prop) (Post : List PyData → PyData → Prop) : Sp := fun vs H Q _ => ∃ B ds, Ex B H ∧ DqAll K B vs ds ∧ Pre ds ∧ ∀ d, Post ds d → ∀ v B' H', Le [] B H B' H' → Dq K B' v d → Q v H'
/-- a def of one value -/
abbrev Pf (K : PySem.W.Frag) (Pre : List PyData → Prop) (f : List PyData → PyData) : Sp := Pu K Pre fun ds d => d = f ds
theorem ev_call {Pre : List PyData → Prop} {f : List PyData → PyData} {E : XK} {ts : TA} {ds : List PyData} (h : EvA K ts σ B H ds) (hp : Pre ds) : Ev K (tCall (Pf K Pre f) [] E ts) σ B H (f ds) := fun B1 H1 l Q q =>
  h B1 H1 l _ fun vs B2 H2 l2 hs => ⟨B2, ds, l2.h, by rw [List.append_nil]; exact hs, hp, fun d hd v B3 H3 l3 hv => by subst hd; exact q v B3 H3 (l2.trans l3) hv⟩
/-- from slots and heap to the promise's end -/
theorem pu_len {Pre : List PyData → Prop} {Post : List PyData → PyData → Prop} {n : Nat} (hn : ∀ ds, Pre ds → ds.length = n) (vs : List V) (H : Hp) (Q : VK) (E : XK) (h : Pu K Pre Post vs H Q E) : vs.length = n := by
  obtain ⟨B, ds, _, h1, h2, _⟩ := h
  rw [h1.length]
  exact hn ds h2
/-! ### statements -/
variable {D : Ends} {tu tw tz : TS}
theorem s_ret (h : Ev K te σ B H d) (e : Ex B H) (q : ∀ v B' H', Le [] B H B' H' → Dq K B' v d → D.rt v H') : tRet te D σ H := h B H (Le.refl e) _ q
theorem s_set {i : Nat} (h : Ev K te σ B H d) (e : Ex B H) (q : ∀ v B' H', Le [] B H B' H' → Dq K B' v d → D.nx (σ.set i (some v)) H') : tAsg te (gName i) D σ H := h B H (Le.refl e) _ q
theorem s_if {k : Bool} (h : EvT t σ B H k) (e : Ex B H) (h1 : k = true → ∀ B' H', Le [] B H B' H' → tu D σ H') (h2 : k = false → ∀ B' H', Le [] B H B' H' → tw D σ H') : tIfS t tu tw D σ H := h B H (Le.refl e) _ fun B' H' l => by
  cases k with
  | true => exact h1 rfl B' H' l
  | false => exact h2 rfl B' H' l
theorem s_drop (h : Ev K te σ B H d) (e : Ex B H) (q : ∀ B' H', Le [] B H B' H' → D.nx σ H') : tDrop te D σ H := h B H (Le.refl e) _ fun _ B' H' l _ => q B' H' l
/-- a name that is read while a list of ours is open: what is told of it is plain -/
theorem Ev.own {p : Addr} {o : HO} (h : Ev K te σ (upd B p o) H d) (hp : H p = some o) (hb : B p = none) (sc : ∀ {H1 H2 : Hp} {v : V}, Dq K H1 v d → Dq K H2 v d) : Ev K te σ B H d := fun B1 H1 l Q q => by
  have hb1 : B1 p = none := l.own hp hb
  have hp1 : H1 p = some o := l.k p o (by simp) hp
  refine h (upd B1 p o) H1 ⟨fun a u e => ?_, ex_give l.h hp1, l.k, l.t, fun a e1 e2 => ?_⟩ Q fun v B2 H2 l2 hv => q v B1 H2 ⟨Ex.refl B1, l.h.trans l2.ex, l2.k, l2.t, fun a e1 e2 => absurd e1 e2⟩ (sc hv)
  · unfold upd at e ⊢
    split at e
    · rename_i z; rw [if_pos z]; exact e
    · rename_i z; rw [if_neg z]; exact l.b a u e
  · by_cases z : a = p
    · rw [z, upd_same] at e1; cases e1
    · rw [upd_ne z] at e1 e2; exact l.n a e1 e2
end
end MA

set_option maxRecDepth 100000
set_option maxHeartbeats 2000000
namespace MA
open PySem PySem.Spec PyProof.Rows L2

/-! ## operators whatever the operands are -/
section
variable {X : Cx}
def rAddA (K : PySem.W.Frag) : R2 := fun x y H Q => (rI0 (fun i j => .int (i + j))) x y H Q ∨ ((∃ i j, x = .str i ∧ y = .str j ∧ i.length + j.length ≤ sizeLine ∧ Q (.str (i ++ j)) H) ∨ (rCatA K x y H Q ∨ rCat x y H Q))
theorem op_addA : OpR X (binaryOp .Add) (rAddA X.K) := op_add.or (op_add_str.or (op_catA.or op_cat))
def rMulA (K : PySem.W.Frag) : R2 := fun x y H Q => (rI CMul fun i j => .int (i * j)) x y H Q ∨ (rRepT K x y H Q ∨ rRep x y H Q)
theorem op_mulA : OpR X (binaryOp .Mult) (rMulA X.K) := op_mul.or (op_repT.or op_rep)
/-- == where one side is the empty list or the empty tuple -/
def rEq0 (K : PySem.W.Frag) (neg : Bool) : R2 := fun x y H Q => ∃ a b xs, x = .ref a ∧ y = .ref b ∧ ((SqL K H a xs ∧ SqL K H b []) ∨ (SqT K H a xs ∧ SqT K H b [])) ∧ Q (.bl (xor neg xs.isEmpty)) H
theorem op_eq0 (hu : X.A.units < cLine) : OpR X (compareOp .Eq) (rEq0 X.K false) := by
  intro pins s σ H x y v u Q I rx ry h
  obtain ⟨a, b, xs, rfl, rfl, hk, q⟩ := h
  cases rx
  cases ry
  rw [Bool.false_xor] at q
  rcases hk with ⟨h1, h2⟩ | ⟨h1, h2⟩
  · obtain ⟨its, rv, p1, _⟩ := I.list h1
    obtain ⟨jts, rw', p2, _⟩ := I.list h2
    have e2 := rw'.length
    have e1 := rv.length
    cases jts with
    | cons _ _ => simp at e2
    | nil =>
      cases xs with
      | nil =>
        cases its with
        | cons _ _ => simp at e1
        | nil => exact SeqAt.eq_listAt (e := fun _ => true) p1.isList p2.isList rfl hu (fun j h1 _ => by simp at h1) ⟨.bl _, H, I, rfl, by simpa using q⟩
      | cons x0 xr =>
        cases its with
        | nil => simp at e1
        | cons i0 ir => exact SeqAt.eq_list_lengthsAt p1.isList p2.isList (by simp) hu ⟨.bl _, H, I, rfl, by simpa using q⟩
  · obtain ⟨its, rv, p1, _⟩ := I.tuple h1
    obtain ⟨jts, rw', p2, _⟩ := I.tuple h2
    have e2 := rw'.length
    have e1 := rv.length
    cases jts with
    | cons _ _ => simp at e2
    | nil =>
      refine SeqAt.eq_tupleAt (e := fun _ => true) p1 p2 hu (fun j _ h2 => by simp at h2) ⟨.bl _, H, I, rfl, ?_⟩
      cases xs with
      | nil =>
        cases its with
        | cons _ _ => simp at e1
        | nil => simpa using q
      | cons x0 xr =>
        cases its with
        | nil => simp at e1
        | cons i0 ir => simpa using q
theorem op_ne0 (hu : X.A.units < cLine) : OpR X (compareOp .NotEq) (rEq0 X.K true) := by
  intro pins s σ H x y v u Q I rx ry h
  obtain ⟨a, b, xs, rfl, rfl, hk, q⟩ := h
  cases rx
  cases ry
  rw [Bool.true_xor] at q
  rcases hk with ⟨h1, h2⟩ | ⟨h1, h2⟩
  · obtain ⟨its, rv, p1, _⟩ := I.list h1
    obtain ⟨jts, rw', p2, _⟩ := I.list h2
    have e2 := rw'.length
    have e1 := rv.length
    cases jts with
    | cons _ _ => simp at e2
    | nil =>
      cases xs with
      | nil =>
        cases its with
        | cons _ _ => simp at e1
        | nil => exact SeqAt.RcNeAt.lists (e := fun _ => true) p1.isList p2.isList rfl hu (fun j h1 _ => by simp at h1) _ _ _ _ ⟨.bl _, H, I, rfl, by simpa using q⟩
      | cons x0 xr =>
        cases its with
        | nil => simp at e1
        | cons i0 ir => exact SeqAt.RcNeAt.lists_lengths p1.isList p2.isList (by simp) hu _ _ _ _ ⟨.bl _, H, I, rfl, by simpa using q⟩
  · obtain ⟨its, rv, p1, _⟩ := I.tuple h1
    obtain ⟨jts, rw', p2, _⟩ := I.tuple h2
    have e2 := rw'.length
    have e1 := rv.length
    cases jts with
    | cons _ _ => simp at e2
    | nil =>
      refine SeqAt.RcNeAt.tuples (e := fun _ => true) p1 p2 hu (fun j _ h2 => by simp at h2) _ _ _ _ ⟨.bl _, H, I, rfl, ?_⟩
      cases xs with
      | nil =>
        cases its with
        | cons _ _ => simp at e1
        | nil => simpa using q
      | cons x0 xr =>
        cases its with
        | nil => simp at e1
        | cons i0 ir => simpa using q
def rEqA (K : PySem.W.Frag) : R2 := fun x y H Q => rEq x y H Q ∨ rEq0 K false x y H Q
theorem op_eqA (hu : X.A.units < cLine) : OpR X (compareOp .Eq) (rEqA X.K) := op_eq.or (op_eq0 hu)
def rNeA (K : PySem.W.Frag) : R2 := fun x y H Q => rNe x y H Q ∨ rEq0 K true x y H Q
theorem op_neA (hu : X.A.units < cLine) : OpR X (compareOp .NotEq) (rNeA X.K) := op_ne.or (op_ne0 hu)
def rSlAny (K : PySem.W.Frag) : V → Option Int → Option Int → Hp → VK → Prop := fun x lo hi H Q => rSlA K x lo hi H Q ∨ (rSlL K x lo hi H Q ∨ rSlS x lo hi H Q)
theorem sl_any : SlR X (rSlAny X.K) := sl_tupA.or (sl_list.or sl_str)
end
end MA

set_option maxRecDepth 100000
set_option maxHeartbeats 2000000
namespace MA
open PySem PySem.Spec PyProof.Rows L2

/-! ## the rules by values, in plain data -/
def cutG {α : Type} (xs : List α) (lo hi : Option Int) : List α := (xs.drop (HT.sIx xs.length 0 lo)).take (HT.sIx xs.length xs.length hi - HT.sIx xs.length 0 lo)
section
variable {K : PySem.W.Frag} {B H : Hp}
theorem DqAll.cut {vs : List V} {ds : List PyData} (q : DqAll K H vs ds) (lo hi : Option Int) : DqAll K H (cutV vs lo hi) (cutG ds lo hi) := by
  unfold cutV cutG
  rw [q.length]
  exact (q.drop _).take _
theorem rv_addI {i j : Int} : RV K (rAddA K) (.int i) (.int j) (.int (i + j)) := fun B H v u e hv hu Q q => by
  cases hv; cases hu
  exact .inl ⟨i, j, rfl, rfl, q _ B H (Le.refl e) (.int _)⟩
theorem rv_addS {i j : Str} (hz : i.length + j.length ≤ sizeLine) : RV K (rAddA K) (.str i) (.str j) (.str (i ++ j)) := fun B H v u e hv hu Q q => by
  cases hv; cases hu
  exact .inr (.inl ⟨i, j, rfl, rfl, hz, q _ B H (Le.refl e) (.str _)⟩)
theorem rv_addT {as bs : List PyData} (hz : as.length + bs.length ≤ sizeLine) : RV K (rAddA K) (.tuple as) (.tuple bs) (.tuple (as ++ bs)) := fun B H v u e hv hu Q q => by
  cases hv with
  | tup h1 q1 =>
    cases hu with
    | tup h2 q2 =>
      rename_i a xs b ys
      refine .inr (.inr (.inl ⟨a, b, xs, ys, rfl, rfl, Evl.ex_t e h1, Evl.ex_t e h2, by rw [q1.length, q2.length]; exact hz, fun z => ?_, fun z1 z2 => ?_, fun z1 z2 p hp => ?_⟩))
      · subst z
        cases q1
        exact q _ B H (Le.refl e) (.tup h2 q2)
      · subst z2
        cases q2
        rw [List.append_nil] at q
        exact q _ B H (Le.refl e) (.tup h1 q1)
      · exact q _ _ _ (Le.new e hp) (.tup (.inl (.inl upd_same)) ((q1.append q2).mono (Le.new (M := []) e hp).b))
theorem rv_addL {as bs : List PyData} (hz : as.length + bs.length ≤ sizeLine) : RV K (rAddA K) (.list as) (.list bs) (.list (as ++ bs)) := fun B H v u e hv hu Q q => by
  cases hv with
  | lst h1 q1 =>
    cases hu with
    | lst h2 q2 =>
      refine .inr (.inr (.inr ⟨_, _, _, _, rfl, rfl, e _ _ h1, e _ _ h2, by rw [q1.length, q2.length]; exact hz, fun p hp => ?_⟩))
      exact q _ _ _ (Le.new e hp) (.lst upd_same ((q1.append q2).mono (Le.new (M := []) e hp).b))
theorem rv_int {C : Int → Int → Prop} {g : Int → Int → Int} {i j : Int} (c : C i j) : RV K (rI C fun i j => .int (g i j)) (.int i) (.int j) (.int (g i j)) := fun B H v u e hv hu Q q => by
  cases hv; cases hu
  exact ⟨i, j, rfl, rfl, c, q _ B H (Le.refl e) (.int _)⟩
theorem rv_int0 {g : Int → Int → Int} {i j : Int} : RV K (rI0 fun i j => .int (g i j)) (.int i) (.int j) (.int (g i j)) := fun B H v u e hv hu Q q => by
  cases hv; cases hu
  exact ⟨i, j, rfl, rfl, q _ B H (Le.refl e) (.int _)⟩
theorem rv_cmp {g : Int → Int → Bool} {i j : Int} : RV K (rI0 fun i j => .bl (g i j)) (.int i) (.int j) (.bool (g i j)) := fun B H v u e hv hu Q q => by
  cases hv; cases hu
  exact ⟨i, j, rfl, rfl, q _ B H (Le.refl e) (.bl _)⟩
theorem rv_mulI {i j : Int} (c : CMul i j) : RV K (rMulA K) (.int i) (.int j) (.int (i * j)) := fun B H v u e hv hu Q q => by
  cases hv; cases hu
  exact .inl ⟨i, j, rfl, rfl, c, q _ B H (Le.refl e) (.int _)⟩
theorem rv_mulT {ds : List PyData} {k : Int} (h0 : ds ≠ []) (h2 : 2 ≤ k) (h3 : k ≤ 1000) (h4 : ds.length ≤ 1000) : RV K (rMulA K) (.tuple ds) (.int k) (.tuple (List.replicate k.toNat ds).flatten) := fun B H v u e hv hu Q q => by
  cases hu
  cases hv with
  | tup h1 q1 =>
    refine .inr (.inl ⟨_, k, _, rfl, rfl, Evl.ex_t e h1, fun z => ?_, h2, h3, by rw [q1.length]; exact h4, fun p hp => ?_⟩)
    · subst z; cases q1; exact h0 rfl
    · exact q _ _ _ (Le.new e hp) (.tup (.inl (.inl upd_same)) ((q1.flatRep _).mono (Le.new (M := []) e hp).b))
/-! comparisons -/
theorem rv_eqI {i j : Int} : RV K (rEqA K) (.int i) (.int j) (.bool (decide (i = j))) := fun B H v u e hv hu Q q => by
  cases hv; cases hu
  refine .inl ⟨rfl, ?_⟩
  have h : decide (V.int i = V.int j) = decide (i = j) := by rw [dec_int]; by_cases z : i = j <;> simp [z]
  rw [h]
  exact q _ B H (Le.refl e) (.bl _)
theorem rv_neI {i j : Int} : RV K (rNeA K) (.int i) (.int j) (.bool (!decide (i = j))) := fun B H v u e hv hu Q q => by
  cases hv; cases hu
  refine .inl ⟨rfl, ?_⟩
  have h : decide (V.int i = V.int j) = decide (i = j) := by rw [dec_int]; by_cases z : i = j <;> simp [z]
  rw [h]
  exact q _ B H (Le.refl e) (.bl _)
theorem dec_strV {i j : Str} : decide (V.str i = V.str j) = decide (i = j) := by
  by_cases z : i = j
  · rw [z]; simp
  · rw [decide_eq_false z, decide_eq_false (fun e => z (V.str.inj e))]
theorem rv_eqS {i j : Str} : RV K (rEqA K) (.str i) (.str j) (.bool (decide (i = j))) := fun B H v u e hv hu Q q => by
  cases hv; cases hu
  refine .inl ⟨rfl, ?_⟩
  rw [dec_strV]
  exact q _ B H (Le.refl e) (.bl _)
theorem rv_neS {i j : Str} : RV K (rNeA K) (.str i) (.str j) (.bool (!decide (i = j))) := fun B H v u e hv hu Q q => by
  cases hv; cases hu
  refine .inl ⟨rfl, ?_⟩
  rw [dec_strV]
  exact q _ B H (Le.refl e) (.bl _)
theorem empty_iff {vs : List V} {ds : List PyData} (q : DqAll K H vs ds) : vs.isEmpty = ds.isEmpty := by
  cases q <;> rfl
theorem rv_eqL0 {ds : List PyData} : RV K (rEqA K) (.list ds) (.list []) (.bool ds.isEmpty) := fun B H v u e hv hu Q q => by
  cases hv with
  | lst h1 q1 =>
    cases hu with
    | lst h2 q2 =>
      cases q2
      refine .inr ⟨_, _, _, rfl, rfl, .inl ⟨.inl (.inl (e _ _ h1)), .inl (.inl (e _ _ h2))⟩, ?_⟩
      rw [Bool.false_xor, empty_iff q1]
      exact q _ B H (Le.refl e) (.bl _)
theorem rv_neL0 {ds : List PyData} : RV K (rNeA K) (.list ds) (.list []) (.bool (!ds.isEmpty)) := fun B H v u e hv hu Q q => by
  cases hv with
  | lst h1 q1 =>
    cases hu with
    | lst h2 q2 =>
      cases q2
      refine .inr ⟨_, _, _, rfl, rfl, .inl ⟨.inl (.inl (e _ _ h1)), .inl (.inl (e _ _ h2))⟩, ?_⟩
      rw [Bool.true_xor, empty_iff q1]
      exact q _ B H (Le.refl e) (.bl _)
theorem rv_eqT0 {ds : List PyData} : RV K (rEqA K) (.tuple ds) (.tuple []) (.bool ds.isEmpty) := fun B H v u e hv hu Q q => by
  cases hv with
  | tup h1 q1 =>
    cases hu with
    | tup h2 q2 =>
      cases q2
      refine .inr ⟨_, _, _, rfl, rfl, .inr ⟨Evl.ex_t e h1, Evl.ex_t e h2⟩, ?_⟩
      rw [Bool.false_xor, empty_iff q1]
      exact q _ B H (Le.refl e) (.bl _)
/-! in a row of ints, of texts -/
theorem inV_ints (i : Int) : ∀ ns : List Int, inV (.int i) (ns.map V.int) = decide (i ∈ ns)
  | [] => by simp [inV]
  | n :: r => by
    have h := inV_ints i r
    unfold inV at h ⊢
    rw [List.map_cons, List.any_cons, h]
    by_cases z : i = n
    · subst z; simp [eqV]
    · have z' : ¬ n = i := fun e => z e.symm
      simp [eqV, z, z']
theorem flat_ints (ns : List Int) : (ns.map V.int).all flatV = true := by
  induction ns with
  | nil => rfl
  | cons n r ih => rw [List.map_cons, List.all_cons, ih]; rfl
theorem inV_strs (i : Str) : ∀ ns : List Str, inV (.str i) (ns.map V.str) = decide (i ∈ ns)
  | [] => by simp [inV]
  | n :: r => by
    have h := inV_strs i r
    unfold inV at h ⊢
    rw [List.map_cons, List.any_cons, h]
    by_cases z : i = n
    · subst z; simp [eqV]
    · have z' : ¬ n = i := fun e => z e.symm
      simp [eqV, z, z']
theorem rv_inTI {i : Int} {ns : List Int} : RV K (rIn K false) (.int i) (.tuple (ns.map PyData.int)) (.bool (decide (i ∈ ns))) := fun B H v u e hv hu Q q => by
  cases hv
  cases hu with
  | tup h1 q1 =>
    cases ofInts q1
    refine ⟨_, _, rfl, .inr (Evl.ex_t e h1), rfl, flat_ints ns, ?_⟩
    rw [if_neg Bool.false_ne_true, inV_ints]
    exact q _ B H (Le.refl e) (.bl _)
theorem rv_notInTI {i : Int} {ns : List Int} : RV K (rIn K true) (.int i) (.tuple (ns.map PyData.int)) (.bool (!decide (i ∈ ns))) := fun B H v u e hv hu Q q => by
  cases hv
  cases hu with
  | tup h1 q1 =>
    cases ofInts q1
    refine ⟨_, _, rfl, .inr (Evl.ex_t e h1), rfl, flat_ints ns, ?_⟩
    rw [if_pos rfl, inV_ints]
    exact q _ B H (Le.refl e) (.bl _)
theorem rv_inLI {i : Int} {ns : List Int} : RV K (rIn K false) (.int i) (.list (ns.map PyData.int)) (.bool (decide (i ∈ ns))) := fun B H v u e hv hu Q q => by
  cases hv
  cases hu with
  | lst h1 q1 =>
    cases ofInts q1
    refine ⟨_, _, rfl, .inl (.inl (.inl (e _ _ h1))), rfl, flat_ints ns, ?_⟩
    rw [if_neg Bool.false_ne_true, inV_ints]
    exact q _ B H (Le.refl e) (.bl _)
theorem rv_notInLI {i : Int} {ns : List Int} : RV K (rIn K true) (.int i) (.list (ns.map PyData.int)) (.bool (!decide (i ∈ ns))) := fun B H v u e hv hu Q q => by
  cases hv
  cases hu with
  | lst h1 q1 =>
    cases ofInts q1
    refine ⟨_, _, rfl, .inl (.inl (.inl (e _ _ h1))), rfl, flat_ints ns, ?_⟩
    rw [if_pos rfl, inV_ints]
    exact q _ B H (Le.refl e) (.bl _)
theorem rv_inLS {i : Str} {ns : List Str} : RV K (rIn K false) (.str i) (.list (ns.map PyData.str)) (.bool (decide (i ∈ ns))) := fun B H v u e hv hu Q q => by
  cases hv
  cases hu with
  | lst h1 q1 =>
    cases ofStrs q1
    refine ⟨_, _, rfl, .inl (.inl (.inl (e _ _ h1))), rfl, flat_strs ns, ?_⟩
    rw [if_neg Bool.false_ne_true, inV_strs]
    exact q _ B H (Le.refl e) (.bl _)
theorem rv_notInTS {i : Str} {ns : List Str} : RV K (rIn K true) (.str i) (.tuple (ns.map PyData.str)) (.bool (!decide (i ∈ ns))) := fun B H v u e hv hu Q q => by
  cases hv
  cases hu with
  | tup h1 q1 =>
    cases ofStrs q1
    refine ⟨_, _, rfl, .inr (Evl.ex_t e h1), rfl, flat_strs ns, ?_⟩
    rw [if_pos rfl, inV_strs]
    exact q _ B H (Le.refl e) (.bl _)
/-! subscripts -/
theorem atI_dq {vs : List V} {ds : List PyData} {i : Int} {d : PyData} (q : DqAll K H vs ds) (h : atI ds i = some d) : ∃ v, atI vs i = some v ∧ Dq K H v d := by
  unfold atI at h ⊢
  rw [q.length]
  cases e : ixN ds.length i with
  | none => rw [e] at h; cases h
  | some j =>
    rw [e] at h
    exact q.get' h
theorem rv_ixT {ds : List PyData} {i : Int} {d : PyData} (h : atI ds i = some d) : RV K (rIx K) (.tuple ds) (.int i) d := fun B H v u e hv hu Q q => by
  cases hu
  cases hv with
  | tup h1 q1 =>
    obtain ⟨w, hw, hd⟩ := atI_dq q1 h
    exact .inr (.inl ⟨_, _, i, w, rfl, rfl, Evl.ex_t e h1, hw, q w B H (Le.refl e) hd⟩)
theorem rv_ixL {ds : List PyData} {i : Int} {d : PyData} (h : atI ds i = some d) : RV K (rIx K) (.list ds) (.int i) d := fun B H v u e hv hu Q q => by
  cases hu
  cases hv with
  | lst h1 q1 =>
    obtain ⟨w, hw, hd⟩ := atI_dq q1 h
    exact .inl ⟨_, _, i, w, rfl, rfl, .inl (.inl (e _ _ h1)), hw, q w B H (Le.refl e) hd⟩
theorem rs_T {ds : List PyData} {lo hi : Option Int} : RS K (rSlAny K) (.tuple ds) lo hi (.tuple (cutG ds lo hi)) := fun B H v e hv Q q => by
  cases hv with
  | tup h1 q1 =>
    refine .inl ⟨_, _, rfl, Evl.ex_t e h1, fun z => ?_, fun z p hp => ?_⟩
    · have e1 : cutG ds lo hi = ds := by
        unfold cutG
        rw [q1.length] at z
        rw [z.1, z.2, List.drop_zero, Nat.sub_zero]
        exact List.take_length
      rw [e1] at q
      exact q _ B H (Le.refl e) (.tup h1 q1)
    · exact q _ _ _ (Le.new e hp) (.tup (.inl (.inl upd_same)) ((q1.cut lo hi).mono (Le.new (M := []) e hp).b))
theorem rs_L {ds : List PyData} {lo hi : Option Int} : RS K (rSlAny K) (.list ds) lo hi (.list (cutG ds lo hi)) := fun B H v e hv Q q => by
  cases hv with
  | lst h1 q1 => exact .inr (.inl ⟨_, _, rfl, .inl (.inl (e _ _ h1)), fun p hp => q _ _ _ (Le.new e hp) (.lst upd_same ((q1.cut lo hi).mono (Le.new (M := []) e hp).b))⟩)
theorem rs_S {x : Str} {lo hi : Option Int} (hz : x.length ≤ sizeLine) : RS K (rSlAny K) (.str x) lo hi (.str (cutS x lo hi)) := fun B H v e hv Q q => by
  cases hv
  exact .inr (.inr ⟨x, rfl, hz, q _ B H (Le.refl e) (.str _)⟩)
/-! calls of built-ins -/
def rLenA (K : PySem.W.Frag) : List V → Hp → VK → Prop := fun xs H Q => ∃ p ys, xs = [V.ref p] ∧ (SqL K H p ys ∨ SqT K H p ys) ∧ Q (.int ys.length) H
theorem rc_lenT {ds : List PyData} : RC K (rLenA K) [.tuple ds] (.int ds.length) := fun B H vs e hv Q q => by
  cases hv with
  | cons h1 h2 =>
    cases h2
    cases h1 with
    | tup h q1 => exact ⟨_, _, rfl, .inr (Evl.ex_t e h), by rw [q1.length]; exact q _ B H (Le.refl e) (.int _)⟩
theorem rc_lenL {ds : List PyData} : RC K (rLenA K) [.list ds] (.int ds.length) := fun B H vs e hv Q q => by
  cases hv with
  | cons h1 h2 =>
    cases h2
    cases h1 with
    | lst h q1 => exact ⟨_, _, rfl, .inl (.inl (.inl (e _ _ h))), by rw [q1.length]; exact q _ B H (Le.refl e) (.int _)⟩
theorem rc_all {bs : List Bool} : RC K (rAll K) [.list (bs.map PyData.bool)] (.bool (bs.all id)) := fun B H vs e hv Q q => by
  cases hv with
  | cons h1 h2 =>
    cases h2
    cases h1 with
    | lst h q1 =>
      cases ofBls q1
      exact ⟨_, bs, rfl, .inl (.inl (e _ _ h)), q _ B H (Le.refl e) (.bl _)⟩
def tyN : PyData → String
  | .none => "NoneType"
  | .bool _ => "bool"
  | .int _ => "int"
  | .str _ => "str"
  | .list _ => "list"
  | .tuple _ => "tuple"
  | .dict _ => "dict"
theorem tyX_of {v : V} {d : PyData} (h : Dq K H v d) : TyX K H v (.type (tyN d)) := by
  cases h with
  | non => exact .base .non
  | bl b => exact .base (.bl b)
  | int i => exact .base (.int i)
  | str x => exact .base (.str x)
  | lst h q => exact .base (.lst h)
  | tup h q =>
    rcases h with (h | ⟨o, h⟩) | ⟨o, its, n, hk, hc, _⟩
    · exact .base (.tup h)
    · exact .fTuple h
    · exact .kTuple hk hc
  | dct h q => exact .base (.dK h)
/-- isinstance(x, T): the class is no plain datum, so the call is told as a whole -/
def isNS (a T : String) : Bool := (a == T) || (a == "bool" && T == "int")
def isN (T : String) (d : PyData) : Bool := isNS (tyN d) T
theorem kit_all : ∀ a ∈ ["NoneType", "bool", "int", "str", "list", "tuple", "dict"], ∀ T ∈ ["int", "bool", "tuple", "str", "dict", "list"], kitB a T = some (isNS a T) := by decide +kernel
theorem tyN_mem (d : PyData) : tyN d ∈ ["NoneType", "bool", "int", "str", "list", "tuple", "dict"] := by cases d <;> simp [tyN]
theorem kit_is {d : PyData} {T : String} (hT : T = "int" ∨ T = "bool" ∨ T = "tuple" ∨ T = "str" ∨ T = "dict" ∨ T = "list") : kitB (tyN d) T = some (isN T d) := 
  kit_all _ (tyN_mem d) T (by rcases hT with rfl | rfl | rfl | rfl | rfl | rfl <;> simp)
theorem ev_isi {te : TE} {σ : L2.St} {d : PyData} {T : String} (h : Ev K te σ B H d) (hT : T = "int" ∨ T = "bool" ∨ T = "tuple" ∨ T = "str" ∨ T = "dict" ∨ T = "list") :
    Ev K (tCB (rIsi K) (tCons te (tCons (tC (.ty T)) tNil))) σ B H (.bool (isN T d)) := fun B1 H1 l Q q =>
  h B1 H1 l _ fun v B2 H2 l2 hv => ⟨v, .ty T, .type (tyN d), .type T, isN T d, rfl, .ty T, tyX_of (hv.mono l2.h), kit_ty (kit_is hT), q _ B2 H2 l2 (.bl _)⟩
def rTupA (K : PySem.W.Frag) : List V → Hp → VK → Prop := fun xs H Q => ∃ p ys, xs = [V.ref p] ∧ ((SqL K H p ys ∧ ∀ l, H l = none → Q (.ref l) (upd H l (.tup ys))) ∨ (SqT K H p ys ∧ Q (.ref p) H))
theorem rc_tupL {ds : List PyData} : RC K (rTupA K) [.list ds] (.tuple ds) := fun B H vs e hv Q q => by
  cases hv with
  | cons h1 h2 =>
    cases h2
    cases h1 with
    | lst h q1 => exact ⟨_, _, rfl, .inl ⟨.inl (.inl (e _ _ h)), fun p hp => q _ _ _ (Le.new e hp) (.tup (.inl (.inl upd_same)) (q1.mono (Le.new (M := []) e hp).b))⟩⟩
def rLstA (K : PySem.W.Frag) : List V → Hp → VK → Prop := fun xs H Q => ∃ p ys, xs = [V.ref p] ∧ (SqL K H p ys ∨ SqT K H p ys) ∧ ∀ l, H l = none → Q (.ref l) (upd H l (.lst ys))
theorem rc_lstT {ds : List PyData} : RC K (rLstA K) [.tuple ds] (.list ds) := fun B H vs e hv Q q => by
  cases hv with
  | cons h1 h2 =>
    cases h2
    cases h1 with
    | tup h q1 => exact ⟨_, _, rfl, .inr (Evl.ex_t e h), fun p hp => q _ _ _ (Le.new e hp) (.lst upd_same (q1.mono (Le.new (M := []) e hp).b))⟩
theorem rc_lstL {ds : List PyData} : RC K (rLstA K) [.list ds] (.list ds) := fun B H vs e hv Q q => by
  cases hv with
  | cons h1 h2 =>
    cases h2
    cases h1 with
    | lst h q1 => exact ⟨_, _, rfl, .inl (.inl (.inl (e _ _ h))), fun p hp => q _ _ _ (Le.new e hp) (.lst upd_same (q1.mono (Le.new (M := []) e hp).b))⟩
end
end MA

set_option maxRecDepth 100000
set_option maxHeartbeats 2000000
namespace MA
open PySem PySem.Spec PyProof.Rows L2 HT

/-! ## t[::-1] of a tuple -/
section
variable {prog : Program} {w : World} {A : Around} {E : Value → Shared → Prop} {s : Shared}
theorem fm_congr {α β : Type} {f g : α → Option β} : ∀ {l : List α}, (∀ a ∈ l, f a = g a) → l.filterMap f = l.filterMap g
  | [], _ => rfl
  | a :: l, h => by
    rw [List.filterMap_cons, List.filterMap_cons, h a (List.mem_cons_self ..), fm_congr fun b hb => h b (List.mem_cons_of_mem _ hb)]
theorem back_picks (xs : Array Value) : ((List.range xs.size).filterMap fun (m : Nat) => xs[(((xs.size : Int) - 1) + (m : Int) * (-1)).toNat]?).toArray = xs.toList.reverse.toArray := by
  have h := PySem.W.krv_pick xs
  unfold slicePick at h
  rw [PySem.W.krv_bounds] at h
  rw [← h]
  show _ = ((sliceRange ((xs.size : Int) - 1) (-1) (-1)).filterMap (xs[·]?)).toArray
  rw [PySem.W.krv_sliceRange, List.filterMap_map]
  refine congrArg List.toArray (fm_congr fun m hm => ?_)
  have hlt := List.mem_range.mp hm
  show xs[_]? = xs[xs.size - 1 - m]?
  congr 1
  omega
theorem back_applied {sl : Addr} {t : Tok} {n : Nat} {Q : Int × Int × Nat → Shared → Prop} (hs : s.heap.IsSliceOf sl .none .none (.int (-1) t)) (h : Q ((n : Int) - 1, -1, n) s) :
    wpAny (model prog w) A (Builtin.Slice.sliceApplied (.ref sl) (pure (n : Int))) Q E s := by
  obtain ⟨os, h1, h2, h3⟩ := id hs
  unfold Builtin.Slice.sliceApplied Builtin.Slice.sliceFields
  refine wpAny_bind (wpAny_bind (wpAny_field h1 h3 (x := .none) rfl (wpAny_bind (wpAny_field h1 h3 (x := .none) rfl (wpAny_bind (wpAny_field h1 h3 (x := .int (-1) t) rfl (wpAny_pure ?_)))))))
  refine wpAny_bind (slicePart_int ?_)
  show wpAny _ _ (if ((-1 : Int) == 0) = true then _ else _) _ _ s
  rw [if_neg (by decide)]
  refine wpAny_bind (slicePart_none (wpAny_bind (slicePart_none (wpAny_bind (wpAny_pure ?_)))))
  show wpAny _ _ (match Builtin.Slice.sliceAdjust none none (-1) (n : Int) with | (lo, hi) => pure (lo, (-1 : Int), Builtin.Slice.slicePlaces lo hi (-1))) _ _ s
  have e1 : Builtin.Slice.sliceAdjust none none (-1) (n : Int) = ((n : Int) - 1, -1) := by simp [Builtin.Slice.sliceAdjust]
  rw [e1]
  show wpAny _ _ (pure ((n : Int) - 1, (-1 : Int), Builtin.Slice.slicePlaces ((n : Int) - 1) (-1) (-1))) _ _ s
  have e2 : Builtin.Slice.slicePlaces ((n : Int) - 1) (-1) (-1) = n := by
    unfold Builtin.Slice.slicePlaces
    rw [if_neg (by decide)]
    split
    · rw [show (- -1 : Int) = 1 by decide, Int.ediv_one]; omega
    · omega
  rw [e2]
  exact wpAny_pure h
theorem getItem_back {a sl : Addr} {items : Array Value} {t : Tok} {Q : Value → Shared → Prop} (ht : IsTup s.heap a items) (hs : s.heap.IsSliceOf sl .none .none (.int (-1) t))
    (h : Q (.ref s.heap.objs.size) { s with heap := s.heap.push { cls := .type "tuple", data := .seq items.toList.reverse.toArray } }) (hz : items.size ≤ sizeLine) : wpAny (model prog w) A (getItem (.ref a) (.ref sl)) Q E s := by
  have hfit : sizeOk (.seq items.toList.reverse.toArray) := by
    show items.toList.reverse.toArray.size ≤ sizeLine
    rw [List.size_toArray, List.length_reverse, Array.length_toList]
    exact hz
  have hty : s.TypeIs (.ref sl) "slice" := let ⟨os, h1, h2, _⟩ := hs; ⟨os, h1, h2⟩
  unfold getItem
  try with_reducible refine wpAny_holding ?_
  first | refine wpAny_bind (wpAny_pure ?_) | skip
  refine wpAny_bind (wpAny_sequenceKey ht.typeIs (by decide) ?_)
  refine wpAny_bind (wpAny_callSpecial?_slot (name := Str.ofString "__getitem__") ht.typeIs PyProof.Rows.slot_tuple_getitem
    (wpAny_call_entry PyProof.Rows.slot_tuple_getitem ht.typeIs entry_tuple_getitem ?_ (args_tuple_getitem _ _)))
  refine wpAny_bind (m := Builtin.Tuple.tupleItemsOf (.ref a)) (tupleItemsOf_ ht ?_)
  refine wpAny_bind (wpAny_typeOf hty ?_)
  rw [if_pos (by decide)]
  refine wpAny_bind (back_applied hs ?_)
  show wpAny _ _ (if (((items.size : Int) - 1) == 0 && (-1 : Int) == 1 && items.size == items.size) = true then _ else _) _ _ s
  have hno : ¬ (((items.size : Int) - 1) == 0 && (-1 : Int) == 1 && items.size == items.size) = true := by
    rw [show ((-1 : Int) == 1) = false by decide, Bool.and_false, Bool.false_and]
    exact Bool.false_ne_true
  rw [if_neg hno, back_picks]
  first
    | exact wpAny_bind (m := Builtin.Tuple.tupleExact _) (wpAny_newObj_type (wpAny_pure ⟨_, rfl, wpAny_pure h⟩) hfit)
    | exact wpAny_bind (m := Builtin.Tuple.tupleExact _) (wpAny_newObj_type (wpAny_bind (wpAny_pure (wpAny_pure ⟨_, rfl, wpAny_pure h⟩))) hfit)
    | exact wpAny_bind (wpAny_bind (m := Builtin.Tuple.tupleExact _) (wpAny_newObj_type (wpAny_pure (wpAny_pure ⟨_, rfl, wpAny_pure h⟩)) hfit))
    | exact wpAny_bind (wpAny_bind (m := Builtin.Tuple.tupleExact _) (wpAny_newObj_type (wpAny_pure ⟨_, rfl, wpAny_pure h⟩) hfit))
end
def tBack (K : PySem.W.Frag) (te : TE) : TE := fun σ H Q => te σ H fun x H1 => ∃ a xs, x = .ref a ∧ SqT K H1 a xs ∧ ∀ p, H1 p = none → Q (.ref p) (upd H1 p (.tup xs.reverse))
theorem pe_backT {X : Cx} {e : Expr} {te : TE} {k : Nat} {p1 p2 p3 pos : Pos} (he : PE X e te) : PE X (.Subscript e (.Slice none none (some (.UnaryOp .USub (.Constant (.int 1) k p1) p2)) p3) pos) (tBack X.K te) := by
  refine ⟨fun pins s σ H Q I h => ?_⟩
  refine Subscript_ (thn (he.run pins s σ H _ I h) fun v s1 ⟨x, H1, I1, r1, a, xs, ex, hx, q⟩ => ?_)
  subst ex
  cases r1
  have hst : PO X (some (.UnaryOp .USub (.Constant (.int 1) k p1) p2)) (tPart (tUn (rU fun i => .int (-i)) (tC (.int 1)))) := po_some (pe_un un_neg pe_int)
  refine wpAny_Slice (thn (po_none.run pins s1 σ H1 (fun o H2 => o = none ∧ H2 = H1) I1 ⟨rfl, rfl⟩) fun vl s2 ⟨l, H2, I2, pl, el, e2⟩ => ?_)
  subst el e2
  refine thn (po_none.run pins s2 σ H2 (fun o H3 => o = none ∧ H3 = H2) I2 ⟨rfl, rfl⟩) fun vu s3 ⟨u, H3, I3, pu, eu, e3⟩ => ?_
  subst eu e3
  refine thn (hst.run pins s3 σ H3 (fun o H4 => o = some (-1) ∧ H4 = H3) I3 ⟨1, rfl, -1, rfl, rfl, rfl⟩) fun vs s4 ⟨o, H4, I4, ps, eo, e4⟩ => ?_
  subst eo e4
  cases pl
  cases pu
  cases ps with
  | int _ t =>
    have I5 : Inv X pins σ H4 { s4 with heap := s4.heap.push { cls := .type "slice", data := .fields #[.none, .none, .int (-1) t] } } := I4.kept (t' := s4.toks) fun b ob q => Heap.get?_push_of_some _ q
    obtain ⟨its, r, ht, hz⟩ := I5.tuple hx
    have hlen := r.length
    show wpAny (model X.prog X.w) X.A (subscriptTail e (.Slice none none (some (.UnaryOp .USub (.Constant (.int 1) k p1) p2)) p3) (.ref a) (.ref s4.heap.objs.size)) (EP X pins σ Q) X.xe { s4 with heap := s4.heap.push { cls := .type "slice", data := .fields #[.none, .none, .int (-1) t] } }
    refine tail_any (ops := [.ref a, .ref s4.heap.objs.size]) ht.typeIs PyProof.Rows.slot_tuple_getitem.lookup ?_ (by with_unfolding_all rfl)
    refine getItem_back ht (Heap.IsSliceOf.new _ .none .none (.int (-1) t)) ?_ (by rw [List.size_toArray]; omega)
    refine ⟨.ref _, _, I5.laid (t' := s4.toks) (o := .tup xs.reverse) (fun b ob q => Heap.get?_push_of_some _ q) (Nat.le_refl _) ?_, rfl, q _ (I5.hok.fresh (Nat.le_refl _))⟩
    exact ⟨by rw [List.length_reverse]; exact hz, _, r.reverse, _, Heap.get?_push_size _ rfl, rfl, _, rfl⟩
theorem ev_back {K : PySem.W.Frag} {σ : L2.St} {B H : Hp} {te : TE} {ds : List PyData} (h : Ev K te σ B H (.tuple ds)) : Ev K (tBack K te) σ B H (.tuple ds.reverse) := fun B1 H1 l Q q =>
  h B1 H1 l _ fun v B2 H2 l2 hv => by
    cases hv with
    | tup h1 q1 => exact ⟨_, _, rfl, Evl.ex_t l2.h h1, fun p hp => q _ _ _ (l2.trans (Le.new l2.h hp)) (.tup (.inl (.inl upd_same)) (q1.reverse.mono (Le.new (M := []) l2.h hp).b))⟩
end MA

set_option maxRecDepth 100000
set_option maxHeartbeats 2000000
/-! enumerate(t) of a tuple -/
namespace PySem
open Sem (wp)
open AutoSeq1 (wpAny_loadPart')
theorem ma_drawsT {prog : Program} {w : World} {A : Around} (hh : A.handled = none) (it t : Addr) (hne : t ≠ it) (items : Array Value) :
    Draws prog w A it [it, t] items.size (fun i v => items[i]? = some v) (fun i h => h.IsTupleIter it t i ∧ h.IsTuple t items) where
  live := fun _ _ st => let ⟨⟨o, ho, _⟩, _⟩ := st; ⟨o, ho⟩
  frame := fun _ _ _ st hk => let ⟨x, ⟨o, ho, r⟩⟩ := st; ⟨x.at fun o e => hk it (by simp) o e, ⟨o, hk t (by simp) o ho, r⟩⟩
  item := fun i s Q E hi st hQ => RZ.nextOf_tuple_item st.1 st.2 (x := items[i]) (by simp [hi]) fun h' hit' hs' =>
    hQ _ h' s.toks (by simp [hi]) ⟨hit', let ⟨o, ho, r⟩ := st.2; ⟨o, (hs'.2 t hne).trans ho, r⟩⟩ hs'
  done := fun s Q E st hE => RZ.nextOf_tuple_end hh st.1 st.2 (by simp) hE
theorem ma_enumT (t : Addr) (items : Array Value) (n : Nat) (dct : Option Addr) (sl : Array (Option Value)) :
    Meets (Builtin.«enumerate.__new__» ⟨[.type "enumerate", .ref t], []⟩) (fun _ R s => s.heap.get? t = some { cls := .type "tuple", dict := dct, data := .seq items n, slots := sl } ∧
      R (.ok (.ret (.ref (Heap.push s.heap { cls := .type "tuple_iterator", data := .fields #[.ref t, .int 0 0] }).objs.size)))
        { s with heap := (s.heap.push { cls := .type "tuple_iterator", data := .fields #[.ref t, .int 0 0] }).push { cls := .type "enumerate", data := .fields #[.none, .bool false, .ref s.heap.objs.size, rawInt 0, .none, .none] } }) :=
  .of_wp fun prog w A R s h => by
    obtain ⟨hp, g, d, tk, os⟩ := s; obtain ⟨hl, h⟩ := h
    have hsub := sub_enumerate
    have hT : Heap.IsTuple (Shared.heap ⟨hp, g, d, tk, os⟩) t items := ⟨_, hl, rfl, n, rfl⟩
    wp_walk using wpAny_loadPart' hl
    refine wpAny_stack_any fun st => wpAny_pure ?_
    split
    · rename_i c _ _ _ _ _
      cases (c == Value.type "enumerate")
      · wp_walk using wpAny_loadPart' hl, wpAny_pyIter_tuple hT
        exact ⟨_, rfl, h⟩
      · wp_walk using wpAny_loadPart' hl, wpAny_pyIter_tuple hT
        exact ⟨_, rfl, h⟩
    · wp_walk using wpAny_loadPart' hl, wpAny_pyIter_tuple hT
      exact ⟨_, rfl, h⟩
theorem ma_call_enumT {prog : Program} {w : World} {A : Around} {E : Value → Shared → Prop} {s : Shared} {t : Addr} {items : Array Value} {Q : Value → Shared → Prop} (hT : s.heap.IsTuple t items)
    (h : ∀ h', IsEnum h' (s.heap.objs.size + 1) s.heap.objs.size 0 .none → h'.IsTupleIter s.heap.objs.size t 0 → (∀ b o, s.heap.get? b = some o → h'.get? b = some o) → Q (.ref (s.heap.objs.size + 1)) { s with heap := h' }) :
    wpAny (model prog w) A (call (.type "enumerate") [.ref t]) Q E s := by
  obtain ⟨⟨c, dct, dt, sl⟩, hl, hc, n, hd⟩ := hT
  cases (show c = .type "tuple" from hc)
  cases (show dt = .seq items n from hd)
  have hz : (s.heap.push { cls := .type "tuple_iterator", data := .fields #[.ref t, .int 0 0] }).objs.size = s.heap.objs.size + 1 := Heap.size_push ..
  refine callType_new F.called_enumerate (by decide) (F.typeCall_enumerate_1 _) (F.newCall_enumerate_1 _) (fun obj => F.args_object_init_2 obj _) F.entry_enumerate_new (ma_enumT t items n dct sl) ⟨hl, ?_⟩
  show _ ∧ _
  rw [hz]
  have he : IsEnum ((s.heap.push { cls := .type "tuple_iterator", data := .fields #[.ref t, .int 0 0] }).push { cls := .type "enumerate", data := .fields #[.none, .bool false, .ref s.heap.objs.size, rawInt 0, .none, .none] }) (s.heap.objs.size + 1) s.heap.objs.size 0 .none := by
    have z := Heap.get?_push_size (s.heap.push { cls := .type "tuple_iterator", data := .fields #[.ref t, .int 0 0] }) (o := { cls := .type "enumerate", data := .fields #[.none, .bool false, .ref s.heap.objs.size, rawInt 0, .none, .none] }) rfl
    rw [hz] at z
    exact z
  exact ⟨⟨_, he, rfl⟩, h _ he ⟨_, Heap.get?_push_of_some _ (Heap.get?_push_size _ rfl), rfl, rfl⟩ fun b o x => Heap.get?_push_of_some _ (Heap.get?_push_of_some _ x)⟩
end PySem
namespace MA
open PySem PySem.Spec PyProof.Rows L2
def ItE (K : PySem.W.Frag) (a : Addr) : It :=
  ⟨fun i H => ∃ (xs : List V) (x : V), SqT K H a xs ∧ xs[i]? = some x, fun i H v H' => ∃ T x, v = .ref T ∧ H T = none ∧ H' = upd H T (.tup [.int (i : Nat), x]) ∧ ∀ xs, SqT K H a xs → xs[i]? = some x, fun i H => ∃ xs : List V, SqT K H a xs ∧ xs.length ≤ i⟩
theorem turn_enumT {P : Program} {w : World} {K : PySem.W.Frag} {elts : List Expr} {kk : Nat} {tpos : Pos} (a e it : Addr) :
    Turn P w K (.Tuple elts kk tpos) (ItE K a) [e, it] e (fun i h => (∃ old, IsEnum h e it ((i : Nat) : Int) old) ∧ h.IsTupleIter it a i ∧ e ≠ it) where
  mem := by simp
  obj := fun i h st b hb => by
    obtain ⟨⟨old, he⟩, ⟨o, ho, hc, hd⟩, _⟩ := st
    rcases (show b = e ∨ b = it by simpa using hb) with z | z
    · rw [z]; exact ⟨_, he, fun v q => nomatch q⟩
    · rw [z]; exact ⟨o, ho, fun v q => by rw [hd] at q; cases q⟩
  keep := fun i h h' st k => let ⟨⟨old, he⟩, hi, hne⟩ := st; ⟨⟨old, k e (by simp) _ he⟩, hi.at fun o q => k it (by simp) o q, hne⟩
  item := by
    intro X hP hw hK hc i pins s σ H E I hf st hg
    subst hP hw hK
    obtain ⟨⟨old, he⟩, hit, hne⟩ := st
    obtain ⟨xs, x, hq, hx⟩ := hg
    obtain ⟨its, rv, p, hz⟩ := I.tuple hq
    obtain ⟨u, hu, ru⟩ := rv.get hx
    have hel : e < s.heap.objs.size := Heap.lt_size he
    have hil : it < s.heap.objs.size := by obtain ⟨_, q, _⟩ := hit; exact Heap.lt_size q
    have hae : a ≠ it := fun z => by
      obtain ⟨o, q, c, _⟩ := hit
      obtain ⟨o2, q2, c2, _⟩ := p
      rw [z, q] at q2; cases q2; rw [c] at c2; exact absurd (Value.type.inj c2) (by decide)
    have hae2 : a ≠ e := fun z => by
      obtain ⟨o2, q2, c2, _⟩ := p
      rw [z] at q2
      rw [show s.heap.get? e = some _ from he] at q2; cases q2; exact absurd (Value.type.inj c2) (by decide)
    have hlt : i < its.length := (List.getElem?_eq_some_iff.mp hu).1
    refine wpAny_pyNext_enum_itemD (ma_drawsT (A := X.A.in1) (I.ok.hd hc) it a hae its.toArray) he ⟨hit, p⟩ (by simpa using hlt) hne (by simp [hne, Ne.symm hae2]) fun y h' tk hy ho hst hT hsz hk => ?_
    have ey : u = y := by
      have hy' : its[i]? = some y := by simpa using hy
      rw [hu] at hy'
      exact Option.some.inj hy'
    subst ey
    refine ⟨_, rfl, wpAny_letOwnedTupleGo_enum (s := { s with heap := h', toks := tk + 1 }) ho fun h'' he' sb => ?_⟩
    have hT2 : h''.get? s.heap.objs.size = some { cls := .type "tuple", data := .seq #[.int i tk, u] } := (sb.2 _ (Nat.ne_of_gt hel)).trans hT
    have new : ObjOk X.prog X.w (upd H s.heap.objs.size (.tup [.int (i : Nat), x])) h'' s.heap.objs.size (.tup [.int (i : Nat), x]) :=
      ⟨by show 2 ≤ sizeLine; decide, [.int i tk, u], .cons ⟨_, rfl⟩ (.cons ru .nil), ⟨_, hT2, rfl, _, rfl⟩⟩
    have I1 : Inv X pins σ (upd H s.heap.objs.size (.tup [.int (i : Nat), x])) { s with heap := h'', toks := tk + 1 } :=
      I.turnedNew (ch := [e, it]) (fun b ob hb q => (sb.2 b (fun z => hb (by simp [z]))).trans (hk b ob (fun z => hb (by simp [z])) (fun z => hb (by simp [z])) q)) hf (Nat.le_refl _) new
    refine ⟨.ref s.heap.objs.size, _, I1, rfl, ⟨_, x, rfl, I.hok.fresh (Nat.le_refl _), rfl, fun ys hy => by rw [I.tuple_inj hy hq]; exact hx⟩, ⟨⟨u, ?_⟩, hst.1.at fun o q => (sb.2 it (Ne.symm hne)).trans q, hne⟩, fun b hb => ?_⟩
    · rw [show ((i + 1 : Nat) : Int) = (i : Int) + 1 by omega]
      exact he'
    · have hb' : b < s.heap.objs.size := by
        rcases (show b = e ∨ b = it by simpa using hb) with z | z
        · rw [z]; exact hel
        · rw [z]; exact hil
      rw [upd_ne (Nat.ne_of_lt hb')]
      exact (hf b hb).1
  done := by
    intro X hP hw hK hc i pins s σ H E I hf st hg
    subst hP hw hK
    obtain ⟨⟨old, he⟩, hit, hne⟩ := st
    obtain ⟨xs, hq, hx⟩ := hg
    obtain ⟨its, rv, p, hz⟩ := I.tuple hq
    obtain ⟨f0, f1, f2, f3, f4, f5⟩ := hf it (by simp)
    have hl := rv.length
    have hT : s.TypeIs (.ref e) "enumerate" := ⟨_, he, rfl⟩
    unfold pyNext
    refine wpAny_bind (wpAny_attempt (wpAny_callSpecial?_slot (name := Str.ofString "__next__") hT F.slot_enumerate_next (wpAny_call_entry F.slot_enumerate_next hT F.entry_enumerate_next ?_ (F.args_enumerate_next_1 _))))
    show wpAny _ _ (field (.ref e) 2 >>= _) _ _ _
    refine wpAny_bind (wpAny_field he rfl (x := .ref it) rfl ?_)
    refine wpAny_bind (RZ.nextOf_tuple_end (A := X.A.in1) (I.ok.hd hc) hit p (by simp; omega) fun h' x he' hx' => ?_)
    obtain ⟨o, ho, hc'⟩ := hx'
    refine wpAny_bind (wpAny_isInstance (T := "StopIteration") (b := true) ⟨o, ho, hc'⟩ isSubtype_stop ?_)
    exact wpAny_pure ⟨rfl, I.turned (t' := s.toks) (fun b o hb q => he' b o hb q) f0 f1 f3 f4 f5⟩
  self := fun A i s Q E st h => let ⟨⟨_, he⟩, _⟩ := st; wpAny_pyIter_enum he h
def iEnT (K : PySem.W.Frag) (ta : TA) : TI := fun σ H R => ta σ H fun vs H1 => ∃ a xs, vs = [.ref a] ∧ SqT K H1 a xs ∧ R (ItE K a) H1
theorem pi_enumT {X : Cx} {e : Expr} {ta : TA} {p pos tpos : Pos} {elts : List Expr} {kk : Nat} (hg : Gl X "enumerate") (hm : X.mg "enumerate" = none) (ha : PA X [e] ta) (hs : starEach [e] X.env = [(false, eval e X.env)] := by rfl) :
    PI X (.Tuple elts kk tpos) (.Call (.Name "enumerate" p) [e] [] pos) (iEnT X.K ta) := by
  refine ⟨fun pins s σ H R I h => ?_⟩
  refine Call_ (ld_blt I hg hm boot_enumerate (PyProof.Rows.callWith_type1 (thn (ha.run pos pins s σ H _ I h) fun us s1 ⟨vs, H1, I1, r1, a, xs, ex, hq, q⟩ => ?_) hs rfl))
  subst ex
  cases r1 with
  | cons r rr =>
    cases rr
    cases r
    obtain ⟨its, rv, p', hz⟩ := I1.tuple hq
    refine ma_call_enumT p' fun h' he hit hk => wpAny_pyIter_enum he ?_
    have I2 : Inv X pins σ H1 { s1 with heap := h' } := I1.kept (t' := s1.toks) hk
    refine ⟨s1.heap.objs.size + 1, [s1.heap.objs.size + 1, s1.heap.objs.size], _, _, H1, rfl, I2, turn_enumT a (s1.heap.objs.size + 1) s1.heap.objs.size, ⟨⟨.none, he⟩, hit, Nat.succ_ne_self _⟩, fun b hb => ?_, q⟩
    have hle : s1.heap.objs.size ≤ b := by
      rcases (show b = s1.heap.objs.size + 1 ∨ b = s1.heap.objs.size by simpa using hb) with z | z
      · rw [z]; exact Nat.le_add_right _ _
      · rw [z]; exact Nat.le_refl _
    exact I1.fpOk hle (I1.hok.fresh hle)
theorem walk_enT {K : PySem.W.Frag} {a : Addr} {xs : List V} : Walk (ItE K a) xs.length (fun H => SqT K H a xs) (YPair (fun i => some (.int (i : Nat))) (fun i => xs[i]?)) := by
  refine ⟨fun i _ hi q => ⟨xs, xs[i], q, by simp [hi]⟩, fun _ q => ⟨xs, q, Nat.le_refl _⟩, fun i H v H' _ q y => ?_⟩
  obtain ⟨T, x, h1, h2, h3, h4⟩ := y
  exact ⟨T, .int (i : Nat), x, h1, h2, h3, rfl, h4 xs q⟩
end MA

set_option maxRecDepth 100000
set_option maxHeartbeats 2000000
namespace MA
open PySem PySem.Spec PyProof.Rows L2

/-! ## {elt for t0 in i0 for t1 in i1}, elt an int -/
abbrev sc2 (elt t0 i0 t1 i1 : Expr) (scope : Scope) (pos : Pos) : Expr := .SetComp elt [⟨t0, i0, [], 0⟩, ⟨t1, i1, [], 0⟩] scope pos
theorem sc2_outer (elt t0 i0 t1 i1 : Expr) (scope : Scope) (pos : Pos) (it acc : Value) (env : Env) :
    compTurn (sc2 elt t0 i0 t1 i1 scope pos) 0 it acc env = (do
      standAt i0.pos
      match ← pyNext it with
      | none => pure (.done .next)
      | some v =>
        letOwnedTupleGo t0 it v
        assign t0 env v
        let x ← eval i1 env
        standAt i1.pos
        let x ← foldedSetIterable i1 env x
        let _ ← runOwn (.compStart (sc2 elt t0 i0 t1 i1 scope pos) 1 (← holding [x] (pyIter x)) acc env) env
        again (.compLoop (sc2 elt t0 i0 t1 i1 scope pos) 0 it acc env)) := by rfl
theorem sc2_inner (elt t0 i0 t1 i1 : Expr) (scope : Scope) (pos : Pos) (it acc : Value) (env : Env) :
    compTurn (sc2 elt t0 i0 t1 i1 scope pos) 1 it acc env = (do
      standAt i1.pos
      match ← pyNext it with
      | none => pure (.done .next)
      | some v =>
        letOwnedTupleGo t1 it v
        assign t1 env v
        (do let v ← eval elt env; standAt elt.pos; let _ ← call (.builtin "set.add") [acc, v])
        again (.compLoop (sc2 elt t0 i0 t1 i1 scope pos) 1 it acc env)) := by rfl
section
variable {prog : Program} {w : World} {A : Around} {R : Result → Shared → Prop} {s : Shared} {elt t0 i0 t1 i1 : Expr} {scope : Scope} {pos : Pos} {it acc : Value} {env : Env}
/-- the block's wish of an exception: none comes -/
abbrev Nox (prog : Program) (w : World) (A : Around) (env : Env) (R : Result → Shared → Prop) : Value → Shared → Prop := notedBy (model prog w) A env fun e t => R (.error e) t
theorem sc2_loop0 (hs : ∀ x, foldedSetIterable i1 env x = pure x) (I : Nat → Shared → Prop)
    (turn : ∀ n s, I n s → wpAny (model prog w) A (pyNext it) (fun r sa => match r with
      | none => R (.ok .next) sa
      | some v => wpAny (model prog w) A (letOwnedTupleGo t0 it v) (fun _ sb => wpAny (model prog w) A (assign t0 env v) (fun _ sc =>
          wpAny (model prog w) A (eval i1 env) (fun x sd => wpAny (model prog w) A (pyIter x) (fun it1 se =>
              codeAny (model prog w) A (.compStart (sc2 elt t0 i0 t1 i1 scope pos) 1 it1 acc env) (fun r t => match r with
                | .ok _ => ∃ m, m < n ∧ I m t
                | .error _ => False) se) (Nox prog w A env R) sd) (Nox prog w A env R) sc) (Nox prog w A env R) sb) (Nox prog w A env R) sa) (Nox prog w A env R) s)
    (n : Nat) (h : I n s) : codeAny (model prog w) A (.compLoop (sc2 elt t0 i0 t1 i1 scope pos) 0 it acc env) R s := by
  refine codeAny_loop rfl I (fun n s hI => ?_) n h
  show wpAny _ A ((compTurn (sc2 elt t0 i0 t1 i1 scope pos) 0 it acc env).onRaise (fun x => do noteFrame x env; theTreesLotGoes x)) _ _ s
  refine wpAny_noted ?_
  rw [sc2_outer]
  refine wpAny_bind (wpAny_standAt (wpAny_bind (wpAny_mono (turn n s hI) (fun r sa ha => ?_) fun _ _ z => z)))
  cases r with
  | none => exact wpAny_pure ha
  | some v =>
    refine wpAny_bind (wpAny_mono ha (fun _ sb hb => wpAny_bind (wpAny_mono hb (fun _ sc hc => ?_) fun _ _ z => z)) fun _ _ z => z)
    refine wpAny_bind (wpAny_mono hc (fun x sd hd => wpAny_bind (wpAny_standAt (wpAny_bind (wpAny_of_eq (hs x) (wpAny_bind (wpAny_holding (wpAny_mono hd (fun it1 se he => ?_) fun _ _ z => z))))))) fun _ _ z => z)
    refine wpAny_bind (wpAny_runOwn ?_)
    rw [Around.mark_none]
    refine codeAny_mono he fun r t hr => ?_
    cases r with
    | error e => exact hr.elim
    | ok f =>
      first
        | exact wpAny_pure ⟨rfl, hr⟩
        | exact wpAny_bind (wpAny_pure (wpAny_pure ⟨rfl, hr⟩))
theorem sc2_loop1 (I : Nat → Shared → Prop)
    (turn : ∀ n s, I n s → wpAny (model prog w) A (pyNext it) (fun r sa => match r with
      | none => R (.ok .next) sa
      | some v => wpAny (model prog w) A (letOwnedTupleGo t1 it v) (fun _ sb => wpAny (model prog w) A (assign t1 env v) (fun _ sc =>
          wpAny (model prog w) A (eval elt env) (fun x sd => wpAny (model prog w) A (call (.builtin "set.add") [acc, x]) (fun _ se => ∃ m, m < n ∧ I m se) (Nox prog w A env R) sd) (Nox prog w A env R) sc) (Nox prog w A env R) sb) (Nox prog w A env R) sa) (Nox prog w A env R) s)
    (n : Nat) (h : I n s) : codeAny (model prog w) A (.compLoop (sc2 elt t0 i0 t1 i1 scope pos) 1 it acc env) R s := by
  refine codeAny_loop rfl I (fun n s hI => ?_) n h
  show wpAny _ A ((compTurn (sc2 elt t0 i0 t1 i1 scope pos) 1 it acc env).onRaise (fun x => do noteFrame x env; theTreesLotGoes x)) _ _ s
  refine wpAny_noted ?_
  rw [sc2_inner]
  refine wpAny_bind (wpAny_standAt (wpAny_bind (wpAny_mono (turn n s hI) (fun r sa ha => ?_) fun _ _ z => z)))
  cases r with
  | none => exact wpAny_pure ha
  | some v =>
    refine wpAny_bind (wpAny_mono ha (fun _ sb hb => wpAny_bind (wpAny_mono hb (fun _ sc hc => ?_) fun _ _ z => z)) fun _ _ z => z)
    exact wpAny_bind (wpAny_bind (wpAny_mono hc (fun x sd hd => wpAny_bind (wpAny_standAt (wpAny_bind (wpAny_mono hd (fun _ se he => wpAny_pure (wpAny_pure ⟨rfl, he⟩)) fun _ _ z => z)))) fun _ _ z => z))
theorem sc2_start1 (h0 : codeAny (model prog w) A (.compLoop (sc2 elt t0 i0 t1 i1 scope pos) 1 it acc env) R s)
    (h : wpAny (model prog w) A (pyIter it) (fun it2 t => codeAny (model prog w) A (.compLoop (sc2 elt t0 i0 t1 i1 scope pos) 1 it2 acc env) R t) (Nox prog w A env R) s) :
    codeAny (model prog w) A (.compStart (sc2 elt t0 i0 t1 i1 scope pos) 1 it acc env) R s := by
  refine codeAny_of_tree ?_
  show wpAny _ _ ((compStart (sc2 elt t0 i0 t1 i1 scope pos) 1 it acc env).onRaise (fun x => do noteFrame x env; standAt theWindowsPlace)) _ _ s
  refine wpAny_notedAt ?_
  unfold compStart
  show wpAny _ _ (ask >>= _) _ _ s
  refine wpAny_bind (wpAny_askSetting (wpAny_ite ?_))
  split
  · first
      | exact wpAny_bind (wpAny_pure (wpAny_pure (And.intro rfl h0)))
      | exact wpAny_pure (And.intro rfl h0)
  · first
      | exact wpAny_bind (wpAny_rule (wpAny_bind (wpAny_standAt (wpAny_bind (wpAny_mono h (fun it2 t z => wpAny_pure (And.intro rfl z)) fun _ _ x => x)))))
      | (refine wpAny_bind (wpAny_rule ?_); show wpAny _ _ (standAt i1.pos >>= _) _ _ s; exact wpAny_bind (wpAny_standAt (wpAny_bind (wpAny_mono h (fun it2 t z => wpAny_pure (And.intro rfl z)) fun _ _ x => x))))
end
section
variable {X : Cx}
theorem addI_ok {pins : List (Addr × Obj)} {σ : L2.St} {H : Hp} {s : Shared} {E : Value → Shared → Prop} {D : Addr} {S : Int → Bool} {n : Nat} {k : Int} {tk : Tok} {Q : Value → Shared → Prop} (I : Inv X pins σ H s) (hD : H D = some (SetO X.w D S n)) (room : n + 1 < scanBound)
    (h : ∀ t, Inv X pins σ (upd H D (SetO X.w D (fun j => S j || decide (j = k)) (if S k = true then n else n + 1))) t → Q .none t) : wpAny (model X.prog X.w) X.A (call (.builtin "set.add") [.ref D, .int k tk]) Q E s := by
  refine setR_add (setO_get I hD) room fun h2 sb new => ?_
  have there : ∃ u, h2.get? D = some u := let ⟨o, _, _, _, ho, _⟩ := new; ⟨o, ho⟩
  exact h _ (I.write (e := D) (t' := s.toks + 1) (by rw [hD]; trivial) (.inl rfl) (fun b u hb hu => (sb.2 b hb).trans hu) there (setO_new new))
/-- the reading: a set at D that grows -/
def tSc2 (w : World) (wi : TI) (g : TG) (wi1 : TI) (g1 : TG) (te : TE) (vs vs1 : List Nat) : TE := fun σ H Q => wi σ H fun J H1 => ∀ D, H1 D = none → ∃ W : Nat → Nat → Hp → Prop, (∃ m, W 0 m (upd H1 D (SetO w D (fun _ => false) 0))) ∧ ∀ i m H, W i m H →
  (J.stop i H ∧ Q (.ref D) H) ∨ (J.go i H ∧ ∃ Nx : Hp → Prop, (∀ Hn, Nx Hn → ∃ mn, mn < m ∧ W (i + 1) mn Hn) ∧ ∀ x Hy, J.yld i H x Hy → g x (wipe σ vs) Hy fun σ2 H2 => wipe σ2 vs = wipe σ vs ∧
    wi1 σ2 H2 fun J1 H4 => ∃ W1 : Nat → Nat → Hp → Prop, (∃ m, W1 0 m H4) ∧ ∀ j k H, W1 j k H →
      (J1.stop j H ∧ Nx H) ∨ (J1.go j H ∧ ∃ Ny : Hp → Prop, (∀ Hn, Ny Hn → ∃ kn, kn < k ∧ W1 (j + 1) kn Hn) ∧ ∀ x Hy, J1.yld j H x Hy → g1 x (wipe σ2 vs1) Hy fun σ3 H5 => wipe σ3 vs1 = wipe σ2 vs1 ∧
        te σ3 H5 fun y H7 => ∃ (z : Int) (S : Int → Bool) (n : Nat), y = .int z ∧ H7 D = some (SetO w D S n) ∧ n + 1 < scanBound ∧ Ny (upd H7 D (SetO w D (fun j => S j || decide (j = z)) (if S z = true then n else n + 1)))))
theorem pe_sc2 {elt t0 i0 t1 i1 : Expr} {scope : Scope} {own : List (PySem.Str × Nat)} {vs1 : List Nat} {pos : Pos} {wi wi1 : TI} {g g1 : TG} {te : TE} (hc : X.calm = true) (hN : X.N.Nodup) (hi : PI X t0 i0 wi) (ok : BlkOk X.N X.env.scope scope own) (hv : ∀ i ∈ vs1, i ∈ own.map (·.2))
    (hg : ∀ (s : Shared) (H : Hp) (C : Addr) (cl : List (PySem.Str × Addr)) (fp : List Addr), PG (X.blk s H scope (compEnvC scope cl C X.env) fp) t0 g)
    (hi1 : ∀ (s : Shared) (H : Hp) (C : Addr) (cl : List (PySem.Str × Addr)) (fp : List Addr), PI (X.blk s H scope (compEnvC scope cl C X.env) fp) t1 i1 wi1)
    (hg1 : ∀ (s : Shared) (H : Hp) (C : Addr) (cl : List (PySem.Str × Addr)) (fp : List Addr), PG (X.blk s H scope (compEnvC scope cl C X.env) fp) t1 g1)
    (he : ∀ (s : Shared) (H : Hp) (C : Addr) (cl : List (PySem.Str × Addr)) (fp : List Addr), PE (X.blk s H scope (compEnvC scope cl C X.env) fp) elt te)
    (hs : ∀ x, foldedSetIterable i0 X.env x = pure x := by intro _; rfl) (hs1 : ∀ env x, foldedSetIterable i1 env x = pure x := by intro _ _; rfl) :
    PE X (.SetComp elt [⟨t0, i0, [], 0⟩, ⟨t1, i1, [], 0⟩] scope pos) (tSc2 X.w wi g wi1 g1 te (own.map (·.2)) vs1) := by
  refine ⟨fun pins s σ H Q I h => ?_⟩
  show wpAny _ _ (comprehension (sc2 elt t0 i0 t1 i1 scope pos) scope X.env (firstIterPos [⟨t0, i0, [], 0⟩, ⟨t1, i1, [], 0⟩] pos) (newSet (.type "set")) false (eval i0 X.env) none) _ _ s
  have hfree : ∀ y ∈ scope.names, y.2 = .free → ∃ c, X.env.cells.lookup y.1 = some c := fun y hy e => (ok.free y hy e).elim (fun k => I.ok.has _ (.inl k)) fun k => I.ok.has _ (.inr k)
  refine wpAny_comprehension_free (use := none) rfl hs (closure_ok hfree) ok.kind (fun y hy e => by rw [ok.uniq y hy, e]) (thn (hi.run pins s σ H _ I h) fun xv sa hx => thn hx fun itv sb h2 => ?_)
  obtain ⟨it, fp, tn, J, H2, e, I2, T, st2, f2, q⟩ := h2
  subst e
  refine PpSet.newSet_ok (newEnv_comp ?_)
  generalize hD : sb.heap.objs.size = D
  have hDn : H2 D = none := I2.hok.fresh (Nat.le_of_eq hD)
  obtain ⟨W, ⟨m0, w0⟩, turn⟩ := q D hDn
  generalize h3 : ({ sb with heap := sb.heap.push { cls := .type "set", dict := none, data := .set #[] 0 (.fresh 0 0 (!X.w.params.followText "set-order")) } } : Shared) = sc
  generalize hH3 : upd H2 D (SetO X.w D (fun _ => false) 0) = H3 at w0
  have hp3 : sc.heap = sb.heap.push { cls := .type "set", dict := none, data := .set #[] 0 (.fresh 0 0 (!X.w.params.followText "set-order")) } := by rw [← h3]
  have I3 : Inv X pins σ H3 sc := by
    rw [← h3, ← hH3]
    refine I2.laid (t' := sb.toks) (fun b o e => Heap.get?_push_of_some _ e) (Nat.le_of_eq hD) ?_
    rw [← hD]
    exact setO_new (setR_fresh X.w)
  have f3 : ∀ b ∈ fp, FpOk X pins H3 b ∧ b < sc.heap.objs.size := fun b hb => by
    obtain ⟨o, e, _⟩ := T.obj _ _ st2 b hb
    have hlt : b < sb.heap.objs.size := Heap.lt_size e
    refine ⟨⟨?_, (f2 b hb).2⟩, by rw [hp3, Heap.size_push]; exact Nat.lt_succ_of_lt hlt⟩
    rw [← hH3, upd_ne (by rw [← hD]; exact Nat.ne_of_lt hlt)]
    exact (f2 b hb).1
  have I4 := block_start I3 ok hN f3
  have pg := hg sc H3 sc.heap.objs.size (cellsFrom (sc.heap.objs.size + 1) scope.names (cloFrom X.env.cells scope.names [])) fp
  have pe := he sc H3 sc.heap.objs.size (cellsFrom (sc.heap.objs.size + 1) scope.names (cloFrom X.env.cells scope.names [])) fp
  have pi1 := hi1 sc H3 sc.heap.objs.size (cellsFrom (sc.heap.objs.size + 1) scope.names (cloFrom X.env.cells scope.names [])) fp
  have pg1 := hg1 sc H3 sc.heap.objs.size (cellsFrom (sc.heap.objs.size + 1) scope.names (cloFrom X.env.cells scope.names [])) fp
  show codeAny _ _ (.compStart (sc2 elt t0 i0 t1 i1 scope pos) 0 (.ref it) (.ref D) (compEnvC scope (cellsFrom (sc.heap.objs.size + 1) scope.names (cloFrom X.env.cells scope.names [])) sc.heap.objs.size X.env)) (compPost (model X.prog X.w) X.A X.xe none (EP X pins σ Q) (.ref D) sc.heap.objs.size) { sc with heap := pushCells (sc.heap.push { cls := .type "dict", data := .dict #[] }) scope.names }
  generalize hce : compEnvC scope (cellsFrom (sc.heap.objs.size + 1) scope.names (cloFrom X.env.cells scope.names [])) sc.heap.objs.size X.env = ce at I4 pg pe pi1 pg1 ⊢
  have cL : ce.locals = sc.heap.objs.size := by subst hce; rfl
  generalize h4 : ({ sc with heap := pushCells (sc.heap.push { cls := .type "dict", data := .dict #[] }) scope.names } : Shared) = sd at I4 ⊢
  have st4 : tn 0 sd.heap := T.keep _ _ _ st2 fun b _ o e => by
    rw [← h4]
    exact pushCells_keeps _ _ _ _ (Heap.get?_push_of_some _ (by rw [hp3]; exact Heap.get?_push_of_some _ e))
  generalize hY : X.blk sc H3 scope ce fp = Y at I4 pg pe pi1 pg1
  have yex : Y.ex = fp := by rw [← hY]
  have stat : ∀ {σa : L2.St} {Ha : Hp} {t : Shared} {ps : List (Addr × Obj)}, Inv Y ps σa Ha t → (∀ b ∈ fp, Ha b = none) → ∀ b ∈ fp, FpOk Y [] Ha b := fun {σa Ha t ps} Ia hn b hb => by
    have hb' : b ∈ Y.ex := by rw [yex]; exact hb
    exact ⟨hn b hb, (Ia.ok.exf b hb').1, Ia.ok.exfs b hb', .inl hb', fun x c e => (Ia.ok.exf b hb').2 x c e, fun p hp => by rw [← hY] at hp; cases hp⟩
  have yP : Y.prog = X.prog := by rw [← hY]
  have yw : Y.w = X.w := by rw [← hY]
  have yK : Y.K = X.K := by rw [← hY]
  have yA : Y.A = X.A := by rw [← hY]
  have yc : Y.calm = true := by rw [← hY]; exact hc
  have yx : Y.xe = fun _ _ => False := by rw [← hY]
  have main : ∀ (R : Result → Shared → Prop), (∀ t Ha, Inv Y [] (wipe σ (own.map (·.2))) Ha t → Q (.ref D) Ha → R (.ok .next) t) →
      codeAny (model X.prog X.w) X.A (.compLoop (sc2 elt t0 i0 t1 i1 scope pos) 0 (.ref it) (.ref D) ce) R sd := by
    intro R hend
    subst hY
    refine sc2_loop0 (hs1 ce) (fun n t => ∃ i Ha, Inv (X.blk sc H3 scope ce fp) [] (wipe σ (own.map (·.2))) Ha t ∧ tn i t.heap ∧ (∀ b ∈ fp, Ha b = none) ∧ W i n Ha) ?_ m0 ⟨0, H3, I4, st4, fun b hb => (f3 b hb).1.1, w0⟩
    rintro n ta ⟨i, H5, I5, st5, n5, w5⟩
    rcases turn i n H5 w5 with ⟨stop, qq⟩ | ⟨go, Nx, hNx, step⟩
    · refine thnF (T.done (X.blk sc H3 scope ce fp) rfl rfl rfl hc i [] ta _ H5 (fun _ _ => False) I5 (stat I5 n5) st5 stop) fun r tb ⟨hr, I6⟩ => ?_
      subst hr
      exact hend tb H5 I6 qq
    refine thnF (T.item (X.blk sc H3 scope ce fp) rfl rfl rfl hc i [] ta _ H5 (fun _ _ => False) I5 (stat I5 n5) st5 go) fun r tb ⟨u, hr, h6⟩ => ?_
    subst hr
    refine thnF h6 fun _ tc ⟨x, H7, I7, r7, y7, st7, n7⟩ => ?_
    refine thnF (pg.run _ tc _ H7 x u _ (I7.pinned (stat I7 n7) (T.obj _ _ st7)) r7 (step x H7 y7)) fun _ td ⟨σ8, H8, I8, hw8, q8⟩ => ?_
    -- back to the outer loop
    have fin : ∀ {σ9 : L2.St} {t : Shared} {Ha : Hp}, Inv (X.blk sc H3 scope ce fp) ([] ++ pinsAt fp tc.heap) σ9 Ha t → (wipe σ (own.map (·.2))).length = σ9.length → (∀ (j : Nat) v, (wipe σ (own.map (·.2)))[j]? = some (some v) → σ9[j]? = some (some v)) → Nx Ha →
        ∃ m, m < n ∧ ∃ i Ha, Inv (X.blk sc H3 scope ce fp) [] (wipe σ (own.map (·.2))) Ha t ∧ tn i t.heap ∧ (∀ b ∈ fp, Ha b = none) ∧ W i m Ha := fun {σ9 t Ha} Ia hl hk nx => by
      obtain ⟨mn, hm, wn⟩ := hNx Ha nx
      have pin : ∀ b ∈ fp, ∀ o, tc.heap.get? b = some o → t.heap.get? b = some o ∧ Ha b = none := fun b hb o e => by
        have z := Ia.pin (b, o) (List.mem_append_right _ (List.mem_append_right _ (mem_pinsAt hb e)))
        exact ⟨z.1, z.2.1⟩
      refine ⟨mn, hm, i + 1, Ha, (Ia.unpinned (pins := [])).weak hl hk, T.keep _ _ _ st7 fun b hb o e => (pin b hb o e).1, fun b hb => ?_, wn⟩
      obtain ⟨o, e, _⟩ := T.obj _ _ st7 b hb
      exact (pin b hb o e).2
    have hl8 : (wipe σ (own.map (·.2))).length = σ8.length := by rw [← hw8, wipe_length]
    have hk9 : ∀ (j : Nat) v, (wipe σ (own.map (·.2)))[j]? = some (some v) → (wipe σ8 vs1)[j]? = some (some v) := fun j v e => by
      rw [← hw8] at e
      obtain ⟨e1, e2⟩ := wipe_some e
      rw [wipe_out fun z => e2 (hv j z)]
      exact e1
    refine thnF (pi1.run _ td σ8 H8 _ I8 q8) fun xv te' hx => thnF hx fun itv tf h11 => ?_
    obtain ⟨it1, fp1, tn1, J1, H11, e1, I11, T1, st11, f11, W1, ⟨m1, w1⟩, turn1⟩ := h11
    subst e1
    have stat1 : ∀ {Ha : Hp}, (∀ b ∈ fp1, Ha b = none) → ∀ b ∈ fp1, FpOk (X.blk sc H3 scope ce fp) ([] ++ pinsAt fp tc.heap) Ha b := fun hn b hb => ⟨hn b hb, (f11 b hb).2⟩
    have inner : codeAny (model X.prog X.w) X.A (.compLoop (sc2 elt t0 i0 t1 i1 scope pos) 1 (.ref it1) (.ref D) ce)
        (fun r t => match r with
          | .ok _ => ∃ m, m < n ∧ ∃ i Ha, Inv (X.blk sc H3 scope ce fp) [] (wipe σ (own.map (·.2))) Ha t ∧ tn i t.heap ∧ (∀ b ∈ fp, Ha b = none) ∧ W i m Ha
          | .error _ => False) tf := by
      refine sc2_loop1 (fun k t => ∃ j Ha, Inv (X.blk sc H3 scope ce fp) ([] ++ pinsAt fp tc.heap) (wipe σ8 vs1) Ha t ∧ tn1 j t.heap ∧ (∀ b ∈ fp1, Ha b = none) ∧ W1 j k Ha) ?_ m1 ⟨0, H11, I11.weak (wipe_length _ _) (fun j v e => (wipe_some e).1), st11, fun b hb => (f11 b hb).1, w1⟩
      rintro k tg ⟨j, H12, I12, st12, n12, w12⟩
      rcases turn1 j k H12 w12 with ⟨stop1, nx1⟩ | ⟨go1, Ny, hNy, step1⟩
      · refine thnF (T1.done (X.blk sc H3 scope ce fp) rfl rfl rfl hc j _ tg (wipe σ8 vs1) H12 (fun _ _ => False) I12 (stat1 n12) st12 stop1) fun r th ⟨hr, I13⟩ => ?_
        subst hr
        exact fin I13 (hl8.trans (wipe_length σ8 vs1).symm) hk9 nx1
      refine thnF (T1.item (X.blk sc H3 scope ce fp) rfl rfl rfl hc j _ tg (wipe σ8 vs1) H12 (fun _ _ => False) I12 (stat1 n12) st12 go1) fun r th ⟨u1, hr, h13⟩ => ?_
      subst hr
      refine thnF h13 fun _ ti ⟨x1, H14, I14, r14, y14, st14, n14⟩ => ?_
      refine thnF (pg1.run _ ti (wipe σ8 vs1) H14 x1 u1 _ (I14.pinned (stat1 n14) (T1.obj _ _ st14)) r14 (step1 x1 H14 y14)) fun _ tj ⟨σ15, H15, I15, hw15, q15⟩ => ?_
      refine thnF (pe.run _ tj σ15 H15 _ I15 q15) fun z tk ⟨yv, H17, I17, r17, zi, S0, n0, ey, hD17, hz17, nx⟩ => ?_
      subst ey
      obtain ⟨ztok, rfl⟩ := (show ∃ t, z = Value.int zi t from r17)
      refine addI_ok (X := X.blk sc H3 scope ce fp) I17 hD17 hz17 fun tl I18 => ?_
      obtain ⟨kn, hk, wn⟩ := hNy _ nx
      have pin : ∀ b ∈ fp1, ∀ o, ti.heap.get? b = some o → tl.heap.get? b = some o ∧ (upd H17 D (SetO X.w D (fun j => S0 j || decide (j = zi)) (if S0 zi = true then n0 else n0 + 1))) b = none := fun b hb o e => by
        have z := I18.pin (b, o) (List.mem_append_right _ (List.mem_append_right _ (mem_pinsAt hb e)))
        exact ⟨z.1, z.2.1⟩
      refine ⟨kn, hk, j + 1, _, I18.unpinned.weak (by rw [← hw15, wipe_length]) (fun j v e => by rw [← hw15] at e; exact (wipe_some e).1), T1.keep _ _ _ st14 fun b hb o e => (pin b hb o e).1, fun b hb => ?_, wn⟩
      obtain ⟨o, e, _⟩ := T1.obj _ _ st14 b hb
      exact (pin b hb o e).2
    exact sc2_start1 inner (T1.self X.A 0 _ _ _ st11 inner)
  have loop := main (compPost (model X.prog X.w) X.A X.xe none (EP X pins σ Q) (.ref D) sc.heap.objs.size) fun t Ha Ia qq => by
    subst hY
    have I7 : Inv X pins σ Ha t := I3.call' (ch := fp) Ia.os Ia.base Ia.hok Ia.bare fun b hb => ⟨(f3 b hb).1.2.2.2.1, (f3 b hb).1.2.1, (f3 b hb).1.2.2.2.2.1, (f3 b hb).1.2.2.2.2.2⟩
    have nC : Ha sc.heap.objs.size = none := by
      have z : Ha ce.locals = none := Ia.free
      rw [cL] at z
      exact z
    obtain ⟨mm, hn, _⟩ := Ia.loc
    have hn : t.heap.Ns ce.locals mm := hn
    rw [cL] at hn
    refine ⟨mm, hn, fun h'' sb' => ?_⟩
    obtain ⟨f0, f1, f2, f4, f5, f6⟩ := I3.fpOk (Nat.le_refl _) nC
    exact ⟨.ref D, Ha, I7.turned (t' := t.toks) (fun b o hb e => (sb'.2 b hb).trans e) f0 f1 f4 f5 f6, rfl, qq⟩
  exact PpSet.codeAny_compStart_set loop (T.self X.A 0 _ _ _ st4 loop)
end
end MA

set_option maxRecDepth 100000
set_option maxHeartbeats 2000000
namespace MA
open PySem PySem.Spec PyProof.Rows L2

/-! ## how many different ones -/
def dcount : List Int → Nat
  | [] => 0
  | x :: r => if x ∈ r then dcount r else dcount r + 1
theorem dcount_le : ∀ ns : List Int, dcount ns ≤ ns.length
  | [] => Nat.le_refl _
  | x :: r => by
    have := dcount_le r
    unfold dcount
    split
    · rw [List.length_cons]; omega
    · rw [List.length_cons]; omega
theorem dcount_eq : ∀ ns : List Int, dcount ns = ns.length ↔ ns.Nodup
  | [] => by simp [dcount]
  | x :: r => by
    have ih := dcount_eq r
    have hle := dcount_le r
    unfold dcount
    rw [List.nodup_cons, List.length_cons]
    split
    · rename_i h
      constructor
      · intro e; omega
      · intro e; exact absurd h e.1
    · rename_i h
      constructor
      · intro e; exact ⟨h, ih.mp (by omega)⟩
      · intro e; rw [ih.mpr e.2]
theorem nodup_count : ∀ (ns l : List Int), l.Nodup → (∀ k, k ∈ l ↔ k ∈ ns) → l.length = dcount ns
  | [], l, _, hm => by
    cases l with
    | nil => rfl
    | cons a l => exact absurd ((hm a).mp (List.mem_cons_self ..)) (by simp)
  | x :: r, l, hn, hm => by
    unfold dcount
    split
    · rename_i h
      refine nodup_count r l hn fun k => ?_
      rw [hm k, List.mem_cons]
      exact ⟨fun z => z.elim (fun e => e ▸ h) id, .inr⟩
    · rename_i h
      have hx : x ∈ l := (hm x).mpr (List.mem_cons_self ..)
      have h1 := nodup_count r (l.erase x) (hn.erase x) fun k => by
        rw [hn.mem_erase_iff, hm k, List.mem_cons]
        constructor
        · rintro ⟨a, b⟩; exact b.resolve_left a
        · intro b; exact ⟨fun e => h (e ▸ b), .inr b⟩
      have h2 : (l.erase x).length = l.length - 1 := List.length_erase_of_mem hx
      have h3 : 0 < l.length := List.length_pos_of_mem hx
      omega
section
variable {X : Cx}
/-- len(set(t)), t a tuple of ints -/
def tLenSetT (K : PySem.W.Frag) (ta : TE) : TE := fun σ H Q => ta σ H fun x H1 => ∃ (l : Addr) (ns : List Int), x = V.ref l ∧ SqT K H1 l (ns.map V.int) ∧ ns.length ≤ 1000 ∧ Q (.int (dcount ns)) H1
theorem pe_lenSetT {a : Expr} {ta : TE} {p p2 q pos : Pos} (hc : X.calm = true) (hg : Gl X "len") (hm : X.mg "len" = none) (hg2 : Gl X "set") (hm2 : X.mg "set" = none) (ha : PE X a ta)
    (na : starEach [a] X.env = (false, eval a X.env) :: starEach [] X.env := by rfl) : PE X (.Call (.Name "len" p) [.Call (.Name "set" p2) [a] [] q] [] pos) (tLenSetT X.K ta) := by
  refine ⟨fun pins s σ H Q I h => ?_⟩
  refine Call_ (ld_blt I hg hm PySem.boot_len ?_)
  refine PyProof.Rows.callWith_builtin1 (PyProof.Rows.args_cons ?_ rfl) rfl rfl
  refine Call_ (ld_blt I hg2 hm2 PyProof.Rows.boot_set ?_)
  refine PyProof.Rows.callWith_type1 (PyProof.Rows.args_cons (thn (ha.run pins s σ H _ I h) fun v s1 ⟨x, H1, I1, r1, l, ns, ex, hq, h1, q1⟩ => PyProof.Rows.args_nil ?_) na) na rfl
  subst ex
  cases r1
  obtain ⟨its, r, pl, hz⟩ := I1.tuple hq
  refine call_set_tupI ns (I1.ok.hd hc) pl (by simpa using intsAre_of r) (by unfold scanBound; omega) fun h2 tk c R hcl hk => ?_
  obtain ⟨o, es, ep, t, ho, hex, hd, _, hnd, hmem, hb, hf, hn, _⟩ := R
  refine PyProof.Rows.args_nil ?_
  have e : es.size = dcount ns := by
    have := nodup_count ns (es.toList.map keyOf) hnd fun k => by
      rw [← hmem k]
      simp
    rw [List.length_map, Array.length_toList] at this
    exact this
  have I2 : Inv X pins σ H1 { s1 with heap := h2, toks := tk } := I1.kept fun b o e => hk b o e
  refine call_len_set ho hex hd hf (by rw [hn]; omega) ⟨.int (dcount ns), H1, I2.tok _, ⟨_, by rw [e]⟩, q1⟩
theorem ev_lenSet {K : PySem.W.Frag} {σ : L2.St} {B H : Hp} {te : TE} {ns : List Int} (h : Ev K te σ B H (.tuple (ns.map PyData.int))) (hz : ns.length ≤ 1000) : Ev K (tLenSetT K te) σ B H (.int (dcount ns)) := fun B1 H1 l Q q =>
  h B1 H1 l _ fun v B2 H2 l2 hv => by
    cases hv with
    | tup h1 q1 =>
      cases ofInts q1
      exact ⟨_, ns, rfl, Evl.ex_t l2.h h1, hz, q _ B2 H2 l2 (.int _)⟩
end
/-! ## comprehensions over plain data -/
section
variable {K : PySem.W.Frag} {σ : L2.St} {B H : Hp} {tl te : TE} {tt : TT}
def slotsD (K : PySem.W.Frag) (B : Hp) (σ : L2.St) (i : Nat) (d : PyData) : Prop := ∃ v, σ[i]? = some (some v) ∧ Dq K B v d
/-- what a comprehension's list holds after some items -/
def picked (f : Nat → Bool) (g : Nat → PyData) (n : Nat) : List PyData := ((List.range n).filter f).map g
theorem picked_yes {f : Nat → Bool} {g : Nat → PyData} {n : Nat} (h : f n = true) : picked f g (n + 1) = picked f g n ++ [g n] := by
  unfold picked
  rw [List.range_succ, List.filter_append, List.map_append, List.filter_cons, if_pos h]
  rfl
theorem picked_no {f : Nat → Bool} {g : Nat → PyData} {n : Nat} (h : f n = false) : picked f g (n + 1) = picked f g n := by
  unfold picked
  rw [List.range_succ, List.filter_append, List.map_append, List.filter_cons, if_neg (by rw [h]; decide)]
  exact List.append_nil _
theorem picked_len (f : Nat → Bool) (g : Nat → PyData) (n : Nat) : (picked f g n).length ≤ n := by
  unfold picked
  rw [List.length_map]
  have h := List.length_filter_le f (List.range n)
  rwa [List.length_range] at h
/-- the word of a pure comprehension: D the list that grows -/
structure Lw (K : PySem.W.Frag) (B H : Hp) (D : Addr) (f : Nat → Bool) (g : Nat → PyData) (i : Nat) (Hi : Hp) : Prop where
  ex : ∃ Bi acc, Le [] B H Bi Hi ∧ Bi D = none ∧ Hi D = some (.lst acc) ∧ DqAll K Bi acc (picked f g i)
theorem Lw.turn {D : Addr} {f : Nat → Bool} {g : Nat → PyData} {i : Nat} {Hi : Hp} {σ2 : L2.St} (hD : H D = none) (hw : Lw K B H D f g i Hi) (hi : i < 100000)
    (ht : ∀ Bi, Le [] B H Bi Hi → EvT tt σ2 Bi Hi (f i)) (he : ∀ Bi Hj, Le [] B H Bi Hj → f i = true → Ev K te σ2 Bi Hj (g i)) :
    tt σ2 Hi fun b H3 => if b = true then te σ2 H3 fun y H4 => ∃ acc, H4 D = some (.lst acc) ∧ acc.length < sizeLine ∧ Lw K B H D f g (i + 1) (upd H4 D (.lst (acc ++ [y]))) else Lw K B H D f g (i + 1) H3 := by
  obtain ⟨Bi, acc, l, hb, hh, hq⟩ := hw
  refine ht Bi l Bi Hi (Le.refl l.h) _ fun B3 H3 l3 => ?_
  have b3 : B3 D = none := l3.own hh hb
  have h3 : H3 D = some (.lst acc) := l3.k D _ (by simp) hh
  cases hf : f i with
  | false =>
    rw [if_neg Bool.false_ne_true]
    exact ⟨B3, acc, l.trans l3, b3, h3, by rw [picked_no hf]; exact hq.mono l3.b⟩
  | true =>
    rw [if_pos rfl]
    refine he B3 H3 (l.trans l3) hf B3 H3 (Le.refl l3.h) _ fun v B4 H4 l4 hv => ?_
    have b4 : B4 D = none := l4.own h3 b3
    have h4 : H4 D = some (.lst acc) := l4.k D _ (by simp) h3
    have hlen : acc.length ≤ i := by rw [hq.length]; exact picked_len f g i
    have hsl : 100000 < sizeLine := by rw [sizeLine_eq]; decide
    refine ⟨acc, h4, by omega, B4, acc ++ [v], ?_, b4, upd_same, ?_⟩
    · have l5 : Le [D] B4 H4 B4 (upd H4 D (.lst (acc ++ [v]))) := Le.put l4.h b4 (by simp)
      have l6 := (l.trans l3).trans l4
      refine ⟨l6.b, l5.h, fun a o _ e => ?_, fun a e => ?_, l6.n⟩
      · have hne : a ≠ D := fun z => by rw [z, hD] at e; cases e
        rw [upd_ne hne]
        exact l6.k a o (by simp) e
      · have := l6.t a e
        unfold upd
        split
        · simp
        · exact this
    · rw [picked_yes hf]
      exact ((hq.mono l3.b).mono l4.b).append (.cons hv .nil)
/-- over a list, over a tuple: the target a name j -/
theorem ev_lcL {xs : List PyData} {j : Nat} {vs : List Nat} (f : Nat → Bool) (g : Nat → PyData) (h : Ev K tl σ B H (.list xs)) (hz : xs.length ≤ 100000) (hw : ∀ x, wipe ((wipe σ vs).set j (some x)) vs = wipe σ vs)
    (ht : ∀ (i : Nat) (d : PyData) (v : V) B1 H1, Le [] B H B1 H1 → xs[i]? = some d → Dq K B1 v d → EvT tt ((wipe σ vs).set j (some v)) B1 H1 (f i))
    (he : ∀ (i : Nat) (d : PyData) (v : V) B1 H1, Le [] B H B1 H1 → xs[i]? = some d → Dq K B1 v d → f i = true → Ev K te ((wipe σ vs).set j (some v)) B1 H1 (g i)) :
    Ev K (tLc (iList K tl) (gName j) tt te vs) σ B H (.list (picked f g xs.length)) := fun B0 H0 l0 Q q => h B0 H0 l0 _ fun u B1 H1 l1 hu => by
  cases hu with
  | lst hs hq =>
    rename_i a ys
    refine ⟨a, rfl, ⟨ys, .inl (.inl (l1.h _ _ hs))⟩, fun D hD => ?_⟩
    have hlen := hq.length
    refine lc_list (xs := ys) (Lw K B1 H1 D f g) ⟨B1, [], Le.made l1.h hD, ?_, upd_same, .nil⟩ (fun i Hi _ p => ?_) (fun i x Hi hi p => ⟨hw x, ?_⟩) (fun Hi p => ?_)
    · cases z : B1 D with
      | none => rfl
      | some o => rw [l1.h D o z] at hD; cases hD
    · obtain ⟨Bi, acc, l, _⟩ := p
      exact .inl (.inl (l.h _ _ (l.b _ _ hs)))
    · obtain ⟨d, hd, hx⟩ := hq.get hi
      have hlt : i < ys.length := (List.getElem?_eq_some_iff.mp hi).1
      exact Lw.turn hD p (by omega) (fun Bi l => ht i d x Bi Hi (l0.trans (l1.trans l)) hd (hx.mono l.b)) (fun Bi Hj l hf => he i d x Bi Hj (l0.trans (l1.trans l)) hd (hx.mono l.b) hf)
    · obtain ⟨Bi, acc, l, hb, hh, hq2⟩ := p
      rw [hlen] at hq2
      have lg := l.give hD hb hh
      exact q (.ref D) _ Hi (l1.trans lg) (.lst upd_same (hq2.mono (Evl.Ex.new hb)))
theorem ev_lcT {xs : List PyData} {j : Nat} {vs : List Nat} (f : Nat → Bool) (g : Nat → PyData) (h : Ev K tl σ B H (.tuple xs)) (hz : xs.length ≤ 100000) (hw : ∀ x, wipe ((wipe σ vs).set j (some x)) vs = wipe σ vs)
    (ht : ∀ (i : Nat) (d : PyData) (v : V) B1 H1, Le [] B H B1 H1 → xs[i]? = some d → Dq K B1 v d → EvT tt ((wipe σ vs).set j (some v)) B1 H1 (f i))
    (he : ∀ (i : Nat) (d : PyData) (v : V) B1 H1, Le [] B H B1 H1 → xs[i]? = some d → Dq K B1 v d → f i = true → Ev K te ((wipe σ vs).set j (some v)) B1 H1 (g i)) :
    Ev K (tLc (iTup K tl) (gName j) tt te vs) σ B H (.list (picked f g xs.length)) := fun B0 H0 l0 Q q => h B0 H0 l0 _ fun u B1 H1 l1 hu => by
  cases hu with
  | tup hs hq =>
    rename_i a ys
    refine ⟨a, rfl, ⟨ys, Evl.ex_t l1.h hs⟩, fun D hD => ?_⟩
    have hlen := hq.length
    refine lc_tup (xs := ys) (Lw K B1 H1 D f g) ⟨B1, [], Le.made l1.h hD, ?_, upd_same, .nil⟩ (fun i Hi _ p => ?_) (fun i x Hi hi p => ⟨hw x, ?_⟩) (fun Hi p => ?_)
    · cases z : B1 D with
      | none => rfl
      | some o => rw [l1.h D o z] at hD; cases hD
    · obtain ⟨Bi, acc, l, _⟩ := p
      exact Evl.ex_t (l.b.trans l.h) hs
    · obtain ⟨d, hd, hx⟩ := hq.get hi
      have hlt : i < ys.length := (List.getElem?_eq_some_iff.mp hi).1
      exact Lw.turn hD p (by omega) (fun Bi l => ht i d x Bi Hi (l0.trans (l1.trans l)) hd (hx.mono l.b)) (fun Bi Hj l hf => he i d x Bi Hj (l0.trans (l1.trans l)) hd (hx.mono l.b) hf)
    · obtain ⟨Bi, acc, l, hb, hh, hq2⟩ := p
      rw [hlen] at hq2
      have lg := l.give hD hb hh
      exact q (.ref D) _ Hi (l1.trans lg) (.lst upd_same (hq2.mono (Evl.Ex.new hb)))
theorem et_yes : EvT tYes σ B H true := fun B1 H1 l Q q => q B1 H1 (Le.refl l.h)
end
end MA

set_option maxRecDepth 100000
set_option maxHeartbeats 2000000
namespace MA
open PySem PySem.Spec PyProof.Rows L2

/-! ## a def of the text, and what callers need of it -/
structure Df (K : PySem.W.Frag) (mg : PySem.Str → Option Value) (x : PySem.Str) (st : Stmt) (ps : List PySem.Str) : Prop where
  ex : ∃ f fd, Fun K x x st f fd ∧ mg x = some (.ref f) ∧ Binds K fd ps []
structure Cl (P : Program) (w : World) (K : PySem.W.Frag) (mg : PySem.Str → Option Value) (base : Heap) (CX : CXT) (k : Nat) (x : PySem.Str) (ps : List PySem.Str) (sp : Sp) : Prop where
  ex : ∃ f fd, FnOk P w K mg base CX k f fd ps sp ∧ mg x = some (.ref f) ∧ PySem.W.keepIn K (.ref f) = true ∧ Binds K fd ps []
section
variable {P : Program} {w : World} {K : PySem.W.Frag} {mg : PySem.Str → Option Value} {base : Heap}
theorem Cl.imp {CX : CXT} {k : Nat} {x : PySem.Str} {ps : List PySem.Str} {sp sp' : Sp} (C : Cl P w K mg base CX k x ps sp) (h : ∀ vs H Q E, sp' vs H Q E → sp vs H Q E) : Cl P w K mg base CX k x ps sp' := by
  obtain ⟨f, fd, F, r⟩ := C.ex
  exact ⟨f, fd, F.imp h, r⟩
theorem Cl.of {x : PySem.Str} {st : Stmt} {ps N : List PySem.Str} {k : Nat} {sp : Sp} (D : Df K mg x st ps) (S : FnScope N ps (defScope st)) (len : ∀ vs H Q E, sp vs H Q E → vs.length = ps.length)
    (hb : ∀ (f : Addr) (cdv : Value) (A : Around) (outer : List Env) (s : Shared) (H : Hp) (vs : List V) (Q : VK) (E : XK), Room k (A.deeper (envOfC x (defScope st) s.heap.objs.size f cdv)) → sp vs H Q E →
      ∃ t, PSs (cxOf CX0 P w K mg base N x (defScope st) f cdv A outer s H E).nox (defBody st) t ∧ t { nx := fun _ H' => Q .non H', rt := Q } (start N vs) H) : Cl P w K mg base CX0 (k + 1) x ps sp := by
  obtain ⟨f, fd, F, hm, hbd⟩ := D.ex
  exact ⟨f, fd, F.ok S len fun cdv A outer s H vs Q E hr h => hb f cdv A outer s H vs Q E hr h, hm, F.kp, hbd⟩
/-- a pure def -/
theorem Cl.pu {x : PySem.Str} {st : Stmt} {ps N : List PySem.Str} {k : Nat} {Pre : List PyData → Prop} {Post : List PyData → PyData → Prop} (D : Df K mg x st ps) (S : FnScope N ps (defScope st)) (hn : ∀ ds, Pre ds → ds.length = ps.length)
    (hb : ∀ (f : Addr) (cdv : Value) (A : Around) (outer : List Env) (s : Shared) (H : Hp) (vs : List V) (Q : VK) (E : XK) (B : Hp) (ds : List PyData), Room k (A.deeper (envOfC x (defScope st) s.heap.objs.size f cdv)) → Ex B H → DqAll K B vs ds → Pre ds →
      (∀ d, Post ds d → ∀ v B' H', Le [] B H B' H' → Dq K B' v d → Q v H') →
      ∃ t, PSs (cxOf CX0 P w K mg base N x (defScope st) f cdv A outer s H E).nox (defBody st) t ∧ t { nx := fun _ H' => Q .non H', rt := Q } (start N vs) H) : Cl P w K mg base CX0 (k + 1) x ps (Pu K Pre Post) :=
  Cl.of D S (pu_len hn) fun f cdv A outer s H vs Q E hr h => by
    obtain ⟨B, ds, e, h1, h2, q⟩ := h
    exact hb f cdv A outer s H vs Q E B ds hr e h1 h2 q
theorem pe_callC {X : Cx} {CX : CXT} {k : Nat} {x : PySem.Str} {ps : List PySem.Str} {sp : Sp} {E : XK} {p pos : Pos} {e : Expr} {es : List Expr} {t : TA} (C : Cl X.prog X.w X.K X.mg X.base CX k x ps sp) (hr : Room k X.A) (hg : Gl X x) (hx : Passes CX X E)
    (ha : PA X (e :: es) t) (hdb : (x == ("__debug__" : PySem.Str)) = false := by decide) (he : starEach (e :: es) X.env = (false, eval e X.env) :: starEach es X.env := by rfl) (hpl : (backTo pos (starEach es X.env)).any (·.1) = false := by rfl) :
    PE X (.Call (.Name x p) (e :: es) [] pos) (tCall sp [] E t) := by
  obtain ⟨f, fd, F, hm, hk, hb⟩ := C.ex
  exact pe_call F hr hg hm hk hb .nil hx ha hdb he hpl
end
/-! ## arguments, one, two, three -/
section
variable {K : PySem.W.Frag} {H : Hp}
theorem dq1 {vs : List V} {d : PyData} (h : DqAll K H vs [d]) : ∃ v, vs = [v] ∧ Dq K H v d := by
  cases h with
  | cons a b => cases b; exact ⟨_, rfl, a⟩
theorem dq2 {vs : List V} {d e : PyData} (h : DqAll K H vs [d, e]) : ∃ v u, vs = [v, u] ∧ Dq K H v d ∧ Dq K H u e := by
  cases h with
  | cons a b => cases b with | cons b c => cases c; exact ⟨_, _, rfl, a, b⟩
theorem dq3 {vs : List V} {d e f : PyData} (h : DqAll K H vs [d, e, f]) : ∃ v u w, vs = [v, u, w] ∧ Dq K H v d ∧ Dq K H u e ∧ Dq K H w f := by
  cases h with
  | cons a b => cases b with | cons b c => cases c with | cons c z => cases z; exact ⟨_, _, _, rfl, a, b, c⟩
end
/-! ## the program's words: items, lines, commands, scripts -/
def isItemD : PyData → Bool
  | .int i => decide (0 ≤ i) && decide (i < 60)
  | _ => false
def itemsOk : List PyData → Bool
  | [] => true
  | d :: r => isItemD d && itemsOk r
def itemI : PyData → Int
  | .int i => i
  | _ => 0
def isLineD : PyData → Bool
  | .tuple ds => decide (1 ≤ ds.length) && decide (ds.length ≤ 60) && (ds.all isItemD && decide ((ds.map itemI).Nodup))
  | _ => false
def isWord : PyData → Bool
  | .str x => decide (x = "behind") || decide (x = "before")
  | _ => false
def isCommandD : PyData → Bool
  | .tuple [w, a, b] => isWord w && (isItemD a && (isItemD b && !decide (itemI a = itemI b)))
  | _ => false
def isScriptD : PyData → Bool
  | .tuple ds => decide (1 ≤ ds.length) && decide (ds.length ≤ 200) && ds.all isCommandD
  | _ => false
theorem item_int {d : PyData} (h : isItemD d = true) : ∃ i : Int, d = .int i ∧ 0 ≤ i ∧ i < 60 := by
  cases d with
  | int i =>
    simp only [isItemD, Bool.and_eq_true, decide_eq_true_eq] at h
    exact ⟨i, rfl, h.1, h.2⟩
  | _ => simp [isItemD] at h
theorem items_ints : ∀ {ds : List PyData}, ds.all isItemD = true → ds = (ds.map itemI).map PyData.int
  | [], _ => rfl
  | d :: r, h => by
    rw [List.all_cons, Bool.and_eq_true] at h
    obtain ⟨i, rfl, _⟩ := item_int h.1
    rw [List.map_cons, List.map_cons, ← items_ints h.2]
    rfl
end MA

set_option maxRecDepth 100000
set_option maxHeartbeats 2000000
namespace MA
open PySem PySem.Spec PyProof.Rows L2
theorem range_getD {α β : Type} (dflt : α) (p : α → Bool) (h : α → β) : ∀ (l : List α), (((List.range l.length).filter fun i => p (l.getD i dflt)).map fun i => h (l.getD i dflt)) = (l.filter p).map h := by
  intro l
  have e : (List.range l.length).map (fun i => l.getD i dflt) = l := by
    apply List.ext_getElem
    · simp
    · intro i h1 h2
      simp [List.getD, h2]
  have e2 : ((List.range l.length).filter fun i => p (l.getD i dflt)).map (fun i => h (l.getD i dflt)) = (((List.range l.length).map (fun i => l.getD i dflt)).filter p).map h := by
    rw [List.filter_map, List.map_map]
    rfl
  rw [e2, e]
theorem getD_of {α : Type} {l : List α} {i : Nat} {d dflt : α} (h : l[i]? = some d) : l.getD i dflt = d := by simp [List.getD, h]
section
variable {K : PySem.W.Frag} {σ : L2.St} {B H : Hp} {tl te : TE} {tt : TT}
theorem ev_compL {xs : List PyData} {j : Nat} {vs : List Nat} (p : PyData → Bool) (h : PyData → PyData) (hl : Ev K tl σ B H (.list xs)) (hz : xs.length ≤ 100000)
    (ht : ∀ (d : PyData) (v : V) B1 H1, Le [] B H B1 H1 → d ∈ xs → Dq K B1 v d → EvT tt ((wipe σ vs).set j (some v)) B1 H1 (p d))
    (he : ∀ (d : PyData) (v : V) B1 H1, Le [] B H B1 H1 → d ∈ xs → Dq K B1 v d → p d = true → Ev K te ((wipe σ vs).set j (some v)) B1 H1 (h d)) (hw : ∀ x, wipe ((wipe σ vs).set j (some x)) vs = wipe σ vs := by intro _; rfl) :
    Ev K (tLc (iList K tl) (gName j) tt te vs) σ B H (.list ((xs.filter p).map h)) := by
  have z := ev_lcL (te := te) (tt := tt) (j := j) (vs := vs) (fun i => p (xs.getD i .none)) (fun i => h (xs.getD i .none)) hl hz hw
    (fun i d v B1 H1 l hd hv => by rw [getD_of hd]; exact ht d v B1 H1 l (List.mem_of_getElem? hd) hv) (fun i d v B1 H1 l hd hv hf => by rw [getD_of hd] at hf ⊢; exact he d v B1 H1 l (List.mem_of_getElem? hd) hv hf)
  unfold picked at z
  rwa [range_getD] at z
theorem ev_compT {xs : List PyData} {j : Nat} {vs : List Nat} (p : PyData → Bool) (h : PyData → PyData) (hl : Ev K tl σ B H (.tuple xs)) (hz : xs.length ≤ 100000)
    (ht : ∀ (d : PyData) (v : V) B1 H1, Le [] B H B1 H1 → d ∈ xs → Dq K B1 v d → EvT tt ((wipe σ vs).set j (some v)) B1 H1 (p d))
    (he : ∀ (d : PyData) (v : V) B1 H1, Le [] B H B1 H1 → d ∈ xs → Dq K B1 v d → p d = true → Ev K te ((wipe σ vs).set j (some v)) B1 H1 (h d)) (hw : ∀ x, wipe ((wipe σ vs).set j (some x)) vs = wipe σ vs := by intro _; rfl) :
    Ev K (tLc (iTup K tl) (gName j) tt te vs) σ B H (.list ((xs.filter p).map h)) := by
  have z := ev_lcT (te := te) (tt := tt) (j := j) (vs := vs) (fun i => p (xs.getD i .none)) (fun i => h (xs.getD i .none)) hl hz hw
    (fun i d v B1 H1 l hd hv => by rw [getD_of hd]; exact ht d v B1 H1 l (List.mem_of_getElem? hd) hv) (fun i d v B1 H1 l hd hv hf => by rw [getD_of hd] at hf ⊢; exact he d v B1 H1 l (List.mem_of_getElem? hd) hv hf)
  unfold picked at z
  rwa [range_getD] at z
end
section
variable {K : PySem.W.Frag} {σ : L2.St} {B H : Hp} {te : TE} {t : TT} {D : Ends} {tu tw tz : TS} {d : PyData}
/-- an if without else, then the rest -/
theorem q_when {k : Bool} (h : EvT t σ B H k) (e : Ex B H) (h1 : k = true → ∀ B' H', Le [] B H B' H' → tu { D with nx := tz D } σ H') (h2 : k = false → ∀ B' H', Le [] B H B' H' → tz D σ H') : tSeq (tIfS t tu tNext) tz D σ H := s_if (D := { D with nx := tz D }) h e h1 h2
theorem s_when {k : Bool} (h : EvT t σ B H k) (e : Ex B H) (h1 : k = true → ∀ B' H', Le [] B H B' H' → tu D σ H') (h2 : k = false → ∀ B' H', Le [] B H B' H' → D.nx σ H') : tIfS t tu tNext D σ H := s_if h e h1 h2
theorem q_set {i : Nat} (h : Ev K te σ B H d) (e : Ex B H) (q : ∀ v B' H', Le [] B H B' H' → Dq K B' v d → tz D (σ.set i (some v)) H') : tSeq (tAsg te (gName i)) tz D σ H := s_set (D := { D with nx := tz D }) h e q
theorem q_drop (h : Ev K te σ B H d) (e : Ex B H) (q : ∀ B' H', Le [] B H B' H' → tz D σ H') : tSeq (tDrop te) tz D σ H := s_drop (D := { D with nx := tz D }) h e q
/-- a, b, c = a tuple -/
theorem gt3 {a b c : PyData} {i j l : Nat} {v : V} {Q : L2.St → Hp → Prop} (e : Ex B H) (hv : Dq K B v (.tuple [a, b, c])) (q : ∀ x y z, Dq K B x a → Dq K B y b → Dq K B z c → Q (((σ.set i (some x)).set j (some y)).set l (some z)) H) :
    gTup K 3 (gCons (gName i) (gCons (gName j) (gCons (gName l) gNil))) v σ H Q := by
  cases hv with
  | tup h1 q1 =>
    obtain ⟨x, y, z, rfl, hx, hy, hz⟩ := dq3 q1
    exact ⟨_, _, rfl, Evl.ex_t e h1, rfl, x, _, rfl, y, _, rfl, z, _, rfl, rfl, q x y z hx hy hz⟩
theorem gt2 {a b : PyData} {i j : Nat} {v : V} {Q : L2.St → Hp → Prop} (e : Ex B H) (hv : Dq K B v (.tuple [a, b])) (q : ∀ x y, Dq K B x a → Dq K B y b → Q ((σ.set i (some x)).set j (some y)) H) :
    gTup K 2 (gCons (gName i) (gCons (gName j) gNil)) v σ H Q := by
  cases hv with
  | tup h1 q1 =>
    obtain ⟨x, y, rfl, hx, hy⟩ := dq2 q1
    exact ⟨_, _, rfl, Evl.ex_t e h1, rfl, x, _, rfl, y, _, rfl, rfl, q x y hx hy⟩
end
section
variable {K : PySem.W.Frag} {σ : L2.St} {B H : Hp} {te : TE} {D : Ends} {tz : TS} {a b c : PyData}
theorem q_asg3 {i j l : Nat} (h : Ev K te σ B H (.tuple [a, b, c])) (e : Ex B H) (q : ∀ x y z B' H', Le [] B H B' H' → Dq K B' x a → Dq K B' y b → Dq K B' z c → tz D (((σ.set i (some x)).set j (some y)).set l (some z)) H') :
    tSeq (tAsg te (gTup K 3 (gCons (gName i) (gCons (gName j) (gCons (gName l) gNil))))) tz D σ H := h B H (Le.refl e) _ fun v B' H' l hv => gt3 l.h hv fun x y z hx hy hz => q x y z B' H' l hx hy hz
theorem q_asg2 {i j : Nat} (h : Ev K te σ B H (.tuple [a, b])) (e : Ex B H) (q : ∀ x y B' H', Le [] B H B' H' → Dq K B' x a → Dq K B' y b → tz D ((σ.set i (some x)).set j (some y)) H') :
    tSeq (tAsg te (gTup K 2 (gCons (gName i) (gCons (gName j) gNil)))) tz D σ H := h B H (Le.refl e) _ fun v B' H' l hv => gt2 l.h hv fun x y hx hy => q x y B' H' l hx hy
end
def rStrI : List V → Hp → VK → Prop := fun xs H Q => ∃ i, xs = [V.int i] ∧ i.natAbs.log2 < 1920 ∧ Q (.str (toString i)) H
theorem filter_true {α : Type} (l : List α) : (l.filter fun _ => true) = l := by simp
/-- pure, one argument -/
abbrev Pf1 (K : PySem.W.Frag) (Pre : PyData → Prop) (f : PyData → PyData) : Sp := Pf K (fun ds => ∃ d, ds = [d] ∧ Pre d) fun ds => f (ds.getD 0 .none)
section
variable {P : Program} {w : World} {K : PySem.W.Frag} {mg : PySem.Str → Option Value} {base : Heap} {σ : L2.St} {B H : Hp} {te : TE}
theorem Cl.pu1 {x : PySem.Str} {st : Stmt} {a : PySem.Str} {N : List PySem.Str} {k : Nat} {Pre : PyData → Prop} {g : PyData → PyData} (D : Df K mg x st [a]) (S : FnScope N [a] (defScope st))
    (hb : ∀ (f : Addr) (cdv : Value) (A : Around) (outer : List Env) (s : Shared) (H : Hp) (v : V) (Q : VK) (E : XK) (B : Hp) (d : PyData), Room k (A.deeper (envOfC x (defScope st) s.heap.objs.size f cdv)) → Ex B H → Dq K B v d → Pre d →
      (∀ v B' H', Le [] B H B' H' → Dq K B' v (g d) → Q v H') →
      ∃ t, PSs (cxOf CX0 P w K mg base N x (defScope st) f cdv A outer s H E).nox (defBody st) t ∧ t { nx := fun _ H' => Q .non H', rt := Q } (start N [v]) H) : Cl P w K mg base CX0 (k + 1) x [a] (Pf1 K Pre g) :=
  Cl.pu D S (fun ds h => by obtain ⟨d, rfl, _⟩ := h; rfl) fun f cdv A outer s H vs Q E B ds hr e hq hp k => by
    obtain ⟨d, rfl, hd⟩ := hp
    obtain ⟨v, rfl, hv⟩ := dq1 hq
    exact hb f cdv A outer s H v Q E B d hr e hv hd fun v B' H' l hv => k _ rfl v B' H' l hv
theorem ev_call1 {Pre : PyData → Prop} {g : PyData → PyData} {E : XK} {d : PyData} (h : Ev K te σ B H d) (hp : Pre d) : Ev K (tCall (Pf1 K Pre g) [] E (tCons te tNil)) σ B H (g d) := ev_call (f := fun ds => g (ds.getD 0 .none)) (ea_cons h ea_nil) ⟨d, rfl, hp⟩
end
def tlen : PyData → Nat
  | .tuple ds => ds.length
  | _ => 0
theorem isT {d : PyData} (h : isN "tuple" d = true) : ∃ ds, d = .tuple ds := by
  cases d with
  | tuple ds => exact ⟨ds, rfl⟩
  | _ => simp [isN, isNS, tyN] at h
theorem isS {d : PyData} (h : isN "str" d = true) : ∃ x, d = .str x := by
  cases d with
  | str x => exact ⟨x, rfl⟩
  | _ => simp [isN, isNS, tyN] at h
theorem all_id {ds : List PyData} (p : PyData → Bool) : (ds.map p).all id = ds.all p := by
  induction ds with
  | nil => rfl
  | cons d r ih => rw [List.map_cons, List.all_cons, List.all_cons, ih]; rfl
theorem rc_allD {K : PySem.W.Frag} {ds : List PyData} (p : PyData → Bool) : RC K (rAll K) [.list (ds.map fun d => .bool (p d))] (.bool (ds.all p)) := by
  have h := rc_all (K := K) (bs := ds.map p)
  rw [all_id, List.map_map] at h
  exact h
end MA

set_option maxRecDepth 100000
set_option maxHeartbeats 2000000
namespace MA
open PySem PySem.Spec PyProof.Rows L2

/-! ## strictly ascending lists of the same members -/
theorem asc_eq : ∀ {xs ys : List Int}, xs.Pairwise (· < ·) → ys.Pairwise (· < ·) → (∀ k, k ∈ xs ↔ k ∈ ys) → xs = ys
  | [], [], _, _, _ => rfl
  | [], y :: ys, _, _, h => absurd ((h y).mpr (List.mem_cons_self ..)) (by simp)
  | x :: xs, [], _, _, h => absurd ((h x).mp (List.mem_cons_self ..)) (by simp)
  | x :: xs, y :: ys, h1, h2, h => by
    rw [List.pairwise_cons] at h1 h2
    have a : x ≤ y := by
      rcases List.mem_cons.mp ((h y).mpr (List.mem_cons_self ..)) with e | m
      · omega
      · have := h1.1 y m; omega
    have b : y ≤ x := by
      rcases List.mem_cons.mp ((h x).mp (List.mem_cons_self ..)) with e | m
      · omega
      · have := h2.1 x m; omega
    have e : x = y := by omega
    subst e
    congr 1
    refine asc_eq h1.2 h2.2 fun k => ⟨fun m => ?_, fun m => ?_⟩
    · rcases List.mem_cons.mp ((h k).mp (List.mem_cons_of_mem _ m)) with z | z
      · have := h1.1 k m; omega
      · exact z
    · rcases List.mem_cons.mp ((h k).mpr (List.mem_cons_of_mem _ m)) with z | z
      · have := h2.1 k m; omega
      · exact z
/-- the ints below 60 for which p holds, ascending -/
def below (p : Int → Bool) : List Int := ((List.range 60).map fun (n : Nat) => (n : Int)).filter p
theorem mem_below {p : Int → Bool} {k : Int} : k ∈ below p ↔ 0 ≤ k ∧ k < 60 ∧ p k = true := by
  unfold below
  rw [List.mem_filter, List.mem_map]
  constructor
  · rintro ⟨⟨n, hn, rfl⟩, h⟩
    have := List.mem_range.mp hn
    exact ⟨by omega, by omega, h⟩
  · rintro ⟨h1, h2, h3⟩
    exact ⟨⟨k.toNat, List.mem_range.mpr (by omega), by omega⟩, h3⟩
theorem below_asc (p : Int → Bool) : (below p).Pairwise (· < ·) := by
  unfold below
  refine List.Pairwise.filter _ ?_
  rw [List.pairwise_map]
  exact List.Pairwise.imp (fun {a b} h => by omega) List.pairwise_lt_range
theorem below_nodup (p : Int → Bool) : (below p).Nodup := List.Pairwise.imp (fun {a b} h => by omega) (below_asc p)
theorem below_len (p : Int → Bool) : (below p).length ≤ 60 := by
  unfold below
  have := List.length_filter_le p ((List.range 60).map fun (n : Nat) => (n : Int))
  simpa using this
theorem nodup_le : ∀ (l m : List Int), l.Nodup → (∀ k ∈ l, k ∈ m) → l.length ≤ m.length
  | [], _, _, _ => Nat.zero_le _
  | x :: l, m, hn, h => by
    rw [List.nodup_cons] at hn
    have hx := h x (List.mem_cons_self ..)
    have h1 := nodup_le l (m.erase x) hn.2 fun k hk => by
      have hne : k ≠ x := fun e => hn.1 (e ▸ hk)
      exact (List.mem_erase_of_ne hne).mpr (h k (List.mem_cons_of_mem _ hk))
    have h2 : (m.erase x).length = m.length - 1 := List.length_erase_of_mem hx
    have h3 : 0 < m.length := List.length_pos_of_mem hx
    rw [List.length_cons]
    omega
/-! ## sorted({elt for t0 in i0 for elt in i1}) of ints below 60 -/
section
variable {K : PySem.W.Frag} {w : World} {σ : L2.St} {B H : Hp} {tl tl1 : TE}
/-- the set at D holds the ints of l -/
def SetIs (w : World) (H : Hp) (D : Addr) (l : List Int) : Prop := l.Nodup ∧ (∀ k ∈ l, 0 ≤ k ∧ k < 60) ∧ ∃ S : Int → Bool, H D = some (SetO w D S l.length) ∧ ∀ k, S k = true ↔ k ∈ l
theorem SetIs.small {D : Addr} {l : List Int} (h : SetIs w H D l) : l.length ≤ 60 := by
  have h1 := nodup_le l (below fun _ => true) h.1 fun k hk => mem_below.mpr ⟨(h.2.1 k hk).1, (h.2.1 k hk).2, rfl⟩
  have h2 := below_len fun _ => true
  omega
/-- the word: the ints of the first i commands and of j more -/
def Sw (K : PySem.W.Frag) (w : World) (B H : Hp) (D : Addr) (p : Int → Prop) (Hi : Hp) : Prop := ∃ Bi l, Le [] B H Bi Hi ∧ Bi D = none ∧ SetIs w Hi D l ∧ ∀ k, k ∈ l ↔ p k
theorem Sw.add {D : Addr} {p q : Int → Prop} {Hi : Hp} {z : Int} (hD : H D = none) (h : Sw K w B H D p Hi) (hz : 0 ≤ z ∧ z < 60) (hq : ∀ k, q k ↔ p k ∨ k = z) :
    ∃ (S : Int → Bool) (n : Nat), Hi D = some (SetO w D S n) ∧ n + 1 < scanBound ∧ Sw K w B H D q (upd Hi D (SetO w D (fun j => S j || decide (j = z)) (if S z = true then n else n + 1))) := by
  obtain ⟨Bi, l, le, hb, hs, hm⟩ := h
  have sm := hs.small
  obtain ⟨hn, hr, S, e, hS⟩ := hs
  refine ⟨S, l.length, e, by unfold scanBound; omega, Bi, if z ∈ l then l else l ++ [z], ?_, hb, ?_, fun k => ?_⟩
  · have l5 := Le.put (M := [D]) (o := SetO w D (fun j => S j || decide (j = z)) (if S z = true then l.length else l.length + 1)) le.h hb (by simp)
    refine ⟨le.b, l5.h, fun a o _ e => ?_, fun a e => l5.t a (le.t a e), le.n⟩
    have hne : a ≠ D := fun z => by rw [z, hD] at e; cases e
    rw [upd_ne hne]
    exact le.k a o (by simp) e
  · by_cases hz' : z ∈ l
    · rw [if_pos hz', if_pos ((hS z).mpr hz')]
      refine ⟨hn, hr, _, upd_same, fun k => ?_⟩
      rw [Bool.or_eq_true, hS k, decide_eq_true_eq]
      exact ⟨fun x => x.elim id fun e => e ▸ hz', .inl⟩
    · rw [if_neg hz', if_neg (fun q => hz' ((hS z).mp q))]
      refine ⟨?_, fun k hk => ?_, (fun j => S j || decide (j = z)), ?_, fun k => ?_⟩
      · rw [List.nodup_append]
        refine ⟨hn, by simp, fun a ha b hb e => ?_⟩
        rw [List.mem_singleton] at hb
        exact hz' (by rw [← hb, ← e]; exact ha)
      · rcases List.mem_append.mp hk with m | m
        · exact hr k m
        · rw [List.mem_singleton.mp m]; exact hz
      · rw [List.length_append]; exact upd_same
      · rw [Bool.or_eq_true, hS k, decide_eq_true_eq, List.mem_append, List.mem_singleton]
  · rw [hq k, ← hm k]
    split
    · rename_i hz'
      exact ⟨.inl, fun x => x.elim id fun e => e ▸ hz'⟩
    · rw [List.mem_append, List.mem_singleton]
/-- as Ev, and the answer is a new object -/
def EvN (K : PySem.W.Frag) (te : TE) (σ : L2.St) (B H : Hp) (d : PyData) : Prop := ∀ B1 H1, Le [] B H B1 H1 → ∀ Q : VK, (∀ v B2 H2, Le [] B1 H1 B2 H2 → (∃ a, v = .ref a ∧ H1 a = none) → Dq K B2 v d → Q v H2) → te σ H1 Q
theorem EvN.ev {te : TE} {d : PyData} (h : EvN K te σ B H d) : Ev K te σ B H d := fun B1 H1 l Q q => h B1 H1 l Q fun v B2 H2 l2 _ hv => q v B2 H2 l2 hv
theorem Le.back {M : List Addr} {B' H' : Hp} (l : Le M B H B' H') {a : Addr} (h : H' a = none) : H a = none := by
  cases z : H a with
  | none => rfl
  | some o => exact absurd h (l.t a (by rw [z]; simp))
theorem evN_sortedSet {xs : List PyData} {j0 j1 : Nat} {vs vs1 : List Nat} (f : PyData → List Int) (hl : Ev K tl σ B H (.tuple xs)) (hf : ∀ d ∈ xs, ∀ k ∈ f d, 0 ≤ k ∧ k < 60)
    (hi : ∀ (d : PyData) (v : V) B1 H1, Le [] B H B1 H1 → d ∈ xs → Dq K B1 v d → Ev K tl1 ((wipe σ vs).set j0 (some v)) B1 H1 (.tuple ((f d).map PyData.int)))
    (hw : ∀ x, wipe ((wipe σ vs).set j0 (some x)) vs = wipe σ vs := by intro _; rfl)
    (hw1 : ∀ x y, wipe ((wipe ((wipe σ vs).set j0 (some x)) vs1).set j1 (some y)) vs1 = wipe ((wipe σ vs).set j0 (some x)) vs1 := by intro _ _; rfl)
    (hg : ∀ x y, ((wipe ((wipe σ vs).set j0 (some x)) vs1).set j1 (some y))[j1]? = some (some y) := by intro _ _; rfl) :
    EvN K (tCB (rSortedSet w) (tCons (tSc2 w (iTup K tl) (gName j0) (iTup K tl1) (gName j1) (tVar j1) vs vs1) tNil)) σ B H (.list ((below fun k => xs.any fun d => decide (k ∈ f d)).map PyData.int)) := fun B0 H0 l0 Q q => by
  refine hl B0 H0 l0 _ fun u B1 H1 l1 hu => ?_
  cases hu with
  | tup hs hq =>
    rename_i a ys
    refine ⟨a, rfl, ⟨ys, Evl.ex_t l1.h hs⟩, fun D hD => ?_⟩
    have b1 : B1 D = none := by
      cases z : B1 D with
      | none => rfl
      | some o => rw [l1.h D o z] at hD; cases hD
    refine ⟨fun i m Hi => m = ys.length - i ∧ i ≤ ys.length ∧ Sw K w B1 H1 D (fun k => ∃ d ∈ xs.take i, k ∈ f d) Hi, ⟨_, rfl, Nat.zero_le _, B1, [], Le.made l1.h hD, b1, ⟨by simp, by simp, _, upd_same, by simp⟩, by simp⟩, ?_⟩
    rintro i m Hi ⟨rfl, hi', p⟩
    have hsq : SqT K Hi a ys := by
      obtain ⟨Bi, l, le, _⟩ := p
      exact Evl.ex_t (le.b.trans le.h) hs
    by_cases hlt : i < ys.length
    · have hy : ys[i]? = some ys[i] := List.getElem?_eq_getElem hlt
      obtain ⟨d, hd, hx⟩ := hq.get hy
      have hdm : d ∈ xs := List.mem_of_getElem? hd
      refine .inr ⟨⟨ys, ys[i], hsq, hy⟩, fun Hn => Sw K w B1 H1 D (fun k => ∃ d ∈ xs.take (i + 1), k ∈ f d) Hn, fun Hn p' => ⟨ys.length - (i + 1), by omega, rfl, hlt, p'⟩, fun x Hy y => ?_⟩
      obtain ⟨rfl, y⟩ := y
      have ex : x = ys[i] := Option.some.inj ((y ys hsq).symm.trans hy)
      subst ex
      refine ⟨hw _, ?_⟩
      have htake : xs.take (i + 1) = xs.take i ++ [d] := by rw [List.take_add_one, hd]; rfl
      obtain ⟨Bi, l, le, hb, hs1, hm⟩ := p
      refine hi d ys[i] Bi Hy (l0.trans (l1.trans le)) hdm (hx.mono le.b) Bi Hy (Le.refl le.h) _ fun u2 B2 H2 l2 hu2 => ?_
      have b2 : B2 D = none := by
        obtain ⟨_, _, S, e, _⟩ := hs1
        exact l2.own e hb
      cases hu2 with
      | tup hs2 hq2 =>
        rename_i a2 ys2
        cases ofInts hq2
        have start : Sw K w B1 H1 D (fun k => (∃ d ∈ xs.take i, k ∈ f d) ∨ k ∈ (f d).take 0) H2 := by
          obtain ⟨h1, h2, S, e, hS⟩ := hs1
          exact ⟨B2, l, le.trans l2, b2, ⟨h1, h2, S, l2.k D _ (by simp) e, hS⟩, fun k => by rw [hm k]; simp⟩
        have keepT : ∀ {Hj : Hp} {pp : Int → Prop}, Sw K w B1 H1 D pp Hj → Ex B2 Hj → SqT K Hj a2 ((f d).map V.int) := fun {Hj pp} _ e => Evl.ex_t e hs2
        refine ⟨a2, rfl, ⟨_, Evl.ex_t l2.h hs2⟩, fun j kk Hj => kk = (f d).length - j ∧ j ≤ (f d).length ∧ Ex B2 Hj ∧ Sw K w B1 H1 D (fun k => (∃ d ∈ xs.take i, k ∈ f d) ∨ k ∈ (f d).take j) Hj, ⟨_, rfl, Nat.zero_le _, l2.h, start⟩, ?_⟩
        rintro j kk Hj ⟨rfl, hj, ex2, p2⟩
        have hsq2 : SqT K Hj a2 ((f d).map V.int) := Evl.ex_t ex2 hs2
        by_cases hlt2 : j < (f d).length
        · have hz : (f d)[j]? = some (f d)[j] := List.getElem?_eq_getElem hlt2
          have hzv : ((f d).map V.int)[j]? = some (.int (f d)[j]) := by rw [List.getElem?_map, hz]; rfl
          refine .inr ⟨⟨_, _, hsq2, hzv⟩, fun Hn => Ex B2 Hn ∧ Sw K w B1 H1 D (fun k => (∃ d ∈ xs.take i, k ∈ f d) ∨ k ∈ (f d).take (j + 1)) Hn, fun Hn p' => ⟨(f d).length - (j + 1), by omega, rfl, hlt2, p'⟩, fun x2 Hy2 y2 => ?_⟩
          obtain ⟨rfl, y2⟩ := y2
          have ex3 : x2 = .int (f d)[j] := Option.some.inj ((y2 _ hsq2).symm.trans hzv)
          subst ex3
          refine ⟨hw1 _ _, .int (f d)[j], hg _ _, ?_⟩
          obtain ⟨S, n, e1, e2, e3⟩ := Sw.add (q := fun k => (∃ d ∈ xs.take i, k ∈ f d) ∨ k ∈ (f d).take (j + 1)) hD p2 (hf d hdm _ (List.getElem_mem hlt2)) fun k => by
            rw [List.take_add_one, hz]
            simp only [Option.toList, List.mem_append, List.mem_singleton]
            rw [or_assoc]
          refine ⟨_, S, n, rfl, e1, e2, fun c o e => ?_, e3⟩
          have hne : c ≠ D := fun z => by rw [z, b2] at e; cases e
          rw [upd_ne hne]
          exact ex2 c o e
        · refine .inl ⟨⟨_, hsq2, by rw [List.length_map]; omega⟩, ?_⟩
          have ej : j = (f d).length := by omega
          subst ej
          obtain ⟨B3, l3, h3, h4, h5, h6⟩ := p2
          refine ⟨B3, l3, h3, h4, h5, fun k => ?_⟩
          rw [h6 k, List.take_length, htake]
          simp only [List.mem_append, List.mem_singleton]
          constructor
          · rintro (⟨d', m, hk⟩ | hk)
            · exact ⟨d', .inl m, hk⟩
            · exact ⟨d, .inr rfl, hk⟩
          · rintro ⟨d', m | rfl, hk⟩
            · exact .inl ⟨d', m, hk⟩
            · exact .inr hk
    · have ei : i = ys.length := by omega
      subst ei
      refine .inl ⟨⟨ys, hsq, Nat.le_refl _⟩, ?_⟩
      obtain ⟨Bi, l, le, hb, hs1, hm⟩ := p
      have sm := hs1.small
      obtain ⟨h1, h2, S, e, hS⟩ := hs1
      refine ⟨D, S, l.length, rfl, e, by omega, fun ns pa hasc hmem hlen hpa => ?_⟩
      have ens : ns = below fun k => xs.any fun d => decide (k ∈ f d) := by
        refine asc_eq hasc (below_asc _) fun k => ?_
        rw [hmem k, hS k, hm k, mem_below, hq.length, List.take_length]
        constructor
        · rintro ⟨d, m, hk⟩
          exact ⟨(hf d m k hk).1, (hf d m k hk).2, List.any_eq_true.mpr ⟨d, m, decide_eq_true hk⟩⟩
        · rintro ⟨_, _, h⟩
          obtain ⟨d, m, hk⟩ := List.any_eq_true.mp h
          exact ⟨d, m, of_decide_eq_true hk⟩
      subst ens
      have ln := Le.new (M := []) (o := .lst ((below fun k => xs.any fun d => decide (k ∈ f d)).map V.int)) le.h hpa
      exact q (.ref pa) _ _ (l1.trans (le.trans ln)) ⟨pa, rfl, (l1.trans le).back hpa⟩ (.lst upd_same (dqInts _))
end
end MA

set_option maxRecDepth 100000
set_option maxHeartbeats 2000000
namespace MA
open PySem PySem.Spec PyProof.Rows L2
section
variable {K : PySem.W.Frag} {σ : L2.St} {B H : Hp} {tl te : TE} {tt : TT}
/-- [.. for i, x in enumerate(t) if ..] -/
theorem ev_lcEnT {xs : List PyData} {i1 i2 : Nat} {vs : List Nat} (f : Nat → Bool) (g : Nat → PyData) (h : Ev K tl σ B H (.tuple xs)) (hz : xs.length ≤ 100000)
    (ht : ∀ (i : Nat) (d : PyData) (v : V) B1 H1, Le [] B H B1 H1 → xs[i]? = some d → Dq K B1 v d → EvT tt (((wipe σ vs).set i1 (some (.int (i : Nat)))).set i2 (some v)) B1 H1 (f i))
    (he : ∀ (i : Nat) (d : PyData) (v : V) B1 H1, Le [] B H B1 H1 → xs[i]? = some d → Dq K B1 v d → f i = true → Ev K te (((wipe σ vs).set i1 (some (.int (i : Nat)))).set i2 (some v)) B1 H1 (g i))
    (hw : ∀ x y, wipe (((wipe σ vs).set i1 (some x)).set i2 (some y)) vs = wipe σ vs := by intro _ _; rfl) :
    Ev K (tLc (iEnT K (tCons tl tNil)) (gTup K 2 (gCons (gName i1) (gCons (gName i2) gNil))) tt te vs) σ B H (.list (picked f g xs.length)) := fun B0 H0 l0 Q q => by
  refine h B0 H0 l0 _ fun u B1 H1 l1 hu => ?_
  cases hu with
  | tup hs hq =>
    rename_i a ys
    refine ⟨a, ys, rfl, Evl.ex_t l1.h hs, fun D hD => ?_⟩
    have hlen := hq.length
    refine lc_it (walk_enT (xs := ys)) (Lw K B1 H1 D f g) ⟨B1, [], Le.made l1.h hD, ?_, upd_same, .nil⟩ (fun i Hi _ p => ?_) (fun i x Hi Hi' hi p y => ?_) (fun Hi p => ?_)
    · cases z : B1 D with
      | none => rfl
      | some o => rw [l1.h D o z] at hD; cases hD
    · obtain ⟨Bi, acc, l, _⟩ := p
      exact Evl.ex_t (l.b.trans l.h) hs
    · obtain ⟨T, x1, x2, rfl, hT, rfl, e1, e2⟩ := y
      cases Option.some.inj e1
      obtain ⟨Bi, acc, l, hb, hh, hq2⟩ := p
      have ln := Le.new (M := []) (o := .tup [.int (i : Nat), x2]) l.h hT
      refine ⟨T, [.int (i : Nat), x2], rfl, .inl (.inl upd_same), rfl, .int (i : Nat), [x2], rfl, x2, [], rfl, rfl, ?_⟩
      obtain ⟨d, hd, hx⟩ := hq.get e2
      have p' : Lw K B1 H1 D f g i (upd Hi T (.tup [.int (i : Nat), x2])) := ⟨_, acc, l.trans ln, ln.own hh hb, ln.k D _ (by simp) hh, hq2.mono ln.b⟩
      exact ⟨hw _ _, Lw.turn hD p' (by omega) (fun Bi l => ht i d x2 Bi _ (l0.trans (l1.trans l)) hd (hx.mono l.b)) (fun Bi Hj l hf => he i d x2 Bi Hj (l0.trans (l1.trans l)) hd (hx.mono l.b) hf)⟩
    · obtain ⟨Bi, acc, l, hb, hh, hq2⟩ := p
      rw [hlen] at hq2
      have lg := l.give hD hb hh
      exact q (.ref D) _ Hi (l1.trans lg) (.lst upd_same (hq2.mono (Evl.Ex.new hb)))
/-- for x in t, pure -/
theorem q_forT {xs : List PyData} {g : TG} {tb tz : TS} {D : Ends} (hl : Ev K tl σ B H (.tuple xs)) (e : Ex B H) (I : Nat → L2.St → Hp → Prop) (h0 : ∀ B1 H1, Le [] B H B1 H1 → I 0 σ B1)
    (hs : ∀ (i : Nat) (d : PyData) (v : V) σ' B' H' N, Le [] B H B' H' → xs[i]? = some d → Dq K B' v d → I i σ' B' → (∀ σ3 B3 H3, Le [] B' H' B3 H3 → I (i + 1) σ3 B3 → N σ3 H3) →
      g v σ' H' fun σ2 H2 => tb { D with nx := N, ct := N, bk := tz D } σ2 H2)
    (hd : ∀ σ' B' H', Le [] B H B' H' → I xs.length σ' B' → tz D σ' H') : tSeq (tFor (iTup K tl) g tb) tz D σ H := by
  refine hl B H (Le.refl e) _ fun u B1 H1 l1 hu => ?_
  cases hu with
  | tup hv hq =>
    rename_i a ys
    refine ⟨a, rfl, ⟨ys, Evl.ex_t l1.h hv⟩, for_tup (xs := ys) (fun i σ' H' => ∃ B', Le [] B1 H1 B' H' ∧ I i σ' B') ⟨B1, Le.refl l1.h, h0 B1 H1 l1⟩ (fun i σ' H' _ p => ?_) (fun i x σ' H' hi p => ?_) (fun σ' H' p => ?_)⟩
    · obtain ⟨B', l, _⟩ := p
      exact Evl.ex_t (l.b.trans l.h) hv
    · obtain ⟨B', l, hI⟩ := p
      obtain ⟨d, hd, hx⟩ := hq.get hi
      exact hs i d x σ' B' H' _ (l1.trans l) hd (hx.mono l.b) hI fun σ3 B3 H3 l3 hI3 => ⟨B3, l.trans l3, hI3⟩
    · obtain ⟨B', l, hI⟩ := p
      rw [hq.length] at hI
      exact hd σ' B' H' (l1.trans l) hI
end
theorem asc_of_sorted : ∀ {xs : List Int}, xs.Pairwise (· ≤ ·) → xs.Nodup → xs.Pairwise (· < ·)
  | [], _, _ => .nil
  | x :: xs, h1, h2 => by
    rw [List.pairwise_cons] at h1
    rw [List.nodup_cons] at h2
    rw [List.pairwise_cons]
    exact ⟨fun a m => by have := h1.1 a m; have : a ≠ x := fun z => h2.1 (z ▸ m); omega, asc_of_sorted h1.2 h2.2⟩
theorem rc_sorted {K : PySem.W.Frag} {ns ys : List Int} (h1 : ns.Nodup) (h2 : ys.Pairwise (· < ·)) (h3 : ∀ k, k ∈ ns ↔ k ∈ ys) : RC K (rSortedI K) [.list (ns.map PyData.int)] (.list (ys.map PyData.int)) := fun B H vs e hvs Q q => by
  obtain ⟨v, rfl, hv⟩ := dq1 hvs
  cases hv with
  | lst h hq =>
    rename_i a xs
    cases ofInts hq
    refine ⟨a, ns, rfl, .inl (.inl (e _ _ h)), fun ns' p hp hs hn => ?_⟩
    have hn' : ns'.Nodup := hp.symm.nodup h1
    have : ns' = ys := asc_eq (asc_of_sorted hs hn') h2 fun k => by rw [hp.mem_iff, h3 k]
    subst this
    exact q (.ref p) _ _ (Le.new (M := []) e hn) (.lst upd_same (dqInts _))
/-! a list of ints in which each stands at its first place -/
theorem nodup_iff : ∀ (ns : List Int), (∀ i k, ns[i]? = some k → k ∉ ns.take i) ↔ ns.Nodup := by
  intro ns
  constructor
  · intro h
    rw [List.nodup_iff_pairwise_ne, List.pairwise_iff_getElem]
    intro i j hi hj hij e
    refine h j ns[j] (List.getElem?_eq_getElem hj) ?_
    rw [← e]
    exact List.mem_take_iff_getElem.mpr ⟨i, by omega, rfl⟩
  · intro h i k hi hm
    rw [List.nodup_iff_pairwise_ne, List.pairwise_iff_getElem] at h
    obtain ⟨j, hj, e⟩ := List.mem_take_iff_getElem.mp hm
    have hlt : i < ns.length := (List.getElem?_eq_some_iff.mp hi).1
    refine h j i (by omega) hlt (by omega) ?_
    rw [e]
    exact (List.getElem?_eq_some_iff.mp hi).2.symm
theorem picked_nil {f : Nat → Bool} {g : Nat → PyData} {n : Nat} : (picked f g n).isEmpty = true ↔ ∀ i < n, f i = false := by
  unfold picked
  rw [List.isEmpty_iff, List.map_eq_nil_iff, List.filter_eq_nil_iff]
  constructor
  · intro h i hi
    simpa using h i (List.mem_range.mpr hi)
  · intro h i hi
    rw [h i (List.mem_range.mp hi)]
    decide
theorem filter_allD {ds : List PyData} (p : PyData → Bool) : (ds.filter fun d => !p d).isEmpty = ds.all p := by
  induction ds with
  | nil => rfl
  | cons d r ih =>
    rw [List.filter_cons, List.all_cons]
    cases h : p d with
    | true => simpa using ih
    | false => rfl
theorem cut_to {α : Type} (xs : List α) (i : Nat) : cutG xs none (some (i : Int)) = xs.take i := by
  unfold cutG
  rw [HT.sIx_none, HT.sIx_nat, List.drop_zero, Nat.sub_zero]
  by_cases h : i ≤ xs.length
  · rw [Nat.min_eq_left h]
  · rw [Nat.min_eq_right (by omega), List.take_of_length_le (Nat.le_refl _), List.take_of_length_le (by omega)]
end MA

set_option maxRecDepth 100000
set_option maxHeartbeats 2000000
namespace MA
open PySem PySem.Spec PyProof.Rows L2

/-! ## a list of three ints that is read and changed on the way: the bag of a drawn case -/
structure Bag (g : Addr) (B H : Hp) : Prop where
  own : B g = none
  has : ∃ x y z : Int, H g = some (.lst [.int x, .int y, .int z])
theorem Le.local {M : List Addr} {p : Addr} {B H B' H' : Hp} (l : Le (p :: M) B H B' H') (hp : H p = none) : Le M B H B' H' :=
  ⟨l.b, l.h, fun a o ha e => l.k a o (fun m => by
    rcases List.mem_cons.mp m with z | m
    · rw [z, hp] at e; cases e
    · exact ha m) e, l.t, l.n⟩
section
variable {g : Addr} {B H B' H' : Hp}
theorem Bag.pure (b : Bag g B H) (l : Le [] B H B' H') : Bag g B' H' := by
  obtain ⟨x, y, z, h⟩ := b.has
  exact ⟨l.own h b.own, x, y, z, l.k g _ (by simp) h⟩
theorem Bag.ne (b : Bag g B H) {p : Addr} (hp : H p = none) : p ≠ g := fun z => by
  obtain ⟨x, y, w, h⟩ := b.has
  rw [z, h] at hp
  cases hp
end
section
variable (K : PySem.W.Frag) (g : Addr)
def Eb (te : TE) (σ : L2.St) (B H : Hp) (R : PyData → Prop) : Prop := ∀ B1 H1, Le [g] B H B1 H1 → Bag g B1 H1 → ∀ Q : VK, (∀ d v B2 H2, R d → Le [g] B1 H1 B2 H2 → Bag g B2 H2 → Dq K B2 v d → Q v H2) → te σ H1 Q
def EbA (ta : TA) (σ : L2.St) (B H : Hp) (R : List PyData → Prop) : Prop := ∀ B1 H1, Le [g] B H B1 H1 → Bag g B1 H1 → ∀ Q : List V → Hp → Prop, (∀ ds vs B2 H2, R ds → Le [g] B1 H1 B2 H2 → Bag g B2 H2 → DqAll K B2 vs ds → Q vs H2) → ta σ H1 Q
def EbT (t : TT) (σ : L2.St) (B H : Hp) (R : Bool → Prop) : Prop := ∀ B1 H1, Le [g] B H B1 H1 → Bag g B1 H1 → ∀ Q : Bool → Hp → Prop, (∀ k B2 H2, R k → Le [g] B1 H1 B2 H2 → Bag g B2 H2 → Q k H2) → t σ H1 Q
/-- a def that draws from the bag, its first argument -/
def Bg (Pre : List PyData → Prop) (Post : List PyData → PyData → Prop) : Sp := fun vs H Q _ => ∃ g us B ds, vs = .ref g :: us ∧ Ex B H ∧ Bag g B H ∧ DqAll K B us ds ∧ Pre ds ∧ ∀ d, Post ds d → ∀ v B' H', Le [g] B H B' H' → Bag g B' H' → Dq K B' v d → Q v H'
end
abbrev RI (P : Int → Prop) : PyData → Prop := fun d => ∃ i : Int, d = .int i ∧ P i
section
variable {K : PySem.W.Frag} {g : Addr} {σ : L2.St} {B H : Hp} {ta tb te : TE} {t u : TT} {d : PyData} {R R1 Rb : PyData → Prop}
theorem eb_of (h : ∀ B1 H1, Le [g] B H B1 H1 → Ev K te σ B1 H1 d) : Eb K g te σ B H (· = d) := fun B1 H1 l b Q q =>
  h B1 H1 l B1 H1 (Le.refl l.h) Q fun v B2 H2 l2 hv => q d v B2 H2 rfl l2.any (b.pure l2) hv
theorem eba_of {ts : TA} {ds : List PyData} (h : ∀ B1 H1, Le [g] B H B1 H1 → EvA K ts σ B1 H1 ds) : EbA K g ts σ B H (· = ds) := fun B1 H1 l b Q q =>
  h B1 H1 l B1 H1 (Le.refl l.h) Q fun v B2 H2 l2 hv => q ds v B2 H2 rfl l2.any (b.pure l2) hv
theorem ebt_of {k : Bool} (h : ∀ B1 H1, Le [g] B H B1 H1 → EvT t σ B1 H1 k) : EbT g t σ B H (· = k) := fun B1 H1 l b Q q =>
  h B1 H1 l B1 H1 (Le.refl l.h) Q fun B2 H2 l2 => q k B2 H2 rfl l2.any (b.pure l2)
theorem Eb.imp (h : Eb K g te σ B H R1) (hr : ∀ d, R1 d → R d) : Eb K g te σ B H R := fun B1 H1 l b Q q => h B1 H1 l b Q fun d v B2 H2 r => q d v B2 H2 (hr d r)
theorem Eb.up {B' H' : Hp} (l : Le [g] B H B' H') (h : Eb K g te σ B H R) : Eb K g te σ B' H' R := fun B1 H1 l1 b Q q => h B1 H1 (l.trans l1) b Q q
theorem eb_op {r : R2} (ha : Eb K g ta σ B H R1) (hb : Eb K g tb σ B H Rb) (hr : ∀ x y, R1 x → Rb y → ∃ z, RV K r x y z ∧ R z) : Eb K g (tOp r ta tb) σ B H R := fun B1 H1 l b Q q =>
  ha B1 H1 l b _ fun x v B2 H2 r1 l2 b2 hv => hb B2 H2 (l.trans l2) b2 _ fun y w B3 H3 r2 l3 b3 hw => by
    obtain ⟨z, rv, rz⟩ := hr x y r1 r2
    exact rv B3 H3 v w l3.h (hv.mono l3.b) hw Q fun o B4 H4 l4 ho => q z o B4 H4 rz ((l2.trans l3).trans l4.any) (b3.pure l4) ho
theorem eba_nil : EbA K g tNil σ B H (· = []) := fun B1 H1 l b Q q => q [] [] B1 H1 rfl (Le.refl l.h) b .nil
theorem eba_cons {tr : TA} {Rr : List PyData → Prop} (ha : Eb K g ta σ B H R1) (hr : EbA K g tr σ B H Rr) : EbA K g (tCons ta tr) σ B H (fun ds => ∃ d r, ds = d :: r ∧ R1 d ∧ Rr r) := fun B1 H1 l b Q q =>
  ha B1 H1 l b _ fun x v B2 H2 r1 l2 b2 hv => hr B2 H2 (l.trans l2) b2 _ fun ys vs B3 H3 r2 l3 b3 hs => q (x :: ys) (v :: vs) B3 H3 ⟨x, ys, rfl, r1, r2⟩ (l2.trans l3) b3 (.cons (hv.mono l3.b) hs)
theorem eb_lst {ts : TA} {Rr : List PyData → Prop} (h : EbA K g ts σ B H Rr) (hz : ∀ ds, Rr ds → ds.length ≤ sizeLine) : Eb K g (tLst ts) σ B H (fun d => ∃ ds, d = .list ds ∧ Rr ds) := fun B1 H1 l b Q q =>
  h B1 H1 l b _ fun ds vs B2 H2 r l2 b2 hs => ⟨by rw [hs.length]; exact hz ds r, fun p hp => q (.list ds) (.ref p) _ _ ⟨ds, rfl, r⟩ (l2.trans (Le.new l2.h hp)) (b2.pure (Le.new l2.h hp)) (.lst upd_same (hs.mono (Le.new (M := []) l2.h hp).b))⟩
theorem eb_tup {ts : TA} {Rr : List PyData → Prop} (h : EbA K g ts σ B H Rr) (hz : ∀ ds, Rr ds → ds.length ≤ sizeLine) : Eb K g (tTup ts) σ B H (fun d => ∃ ds, d = .tuple ds ∧ Rr ds) := fun B1 H1 l b Q q =>
  h B1 H1 l b _ fun ds vs B2 H2 r l2 b2 hs => ⟨by rw [hs.length]; exact hz ds r, fun p hp => q (.tuple ds) (.ref p) _ _ ⟨ds, rfl, r⟩ (l2.trans (Le.new l2.h hp)) (b2.pure (Le.new l2.h hp)) (.tup (.inl (.inl upd_same)) (hs.mono (Le.new (M := []) l2.h hp).b))⟩
theorem eb_call {Pre : List PyData → Prop} {Post : List PyData → PyData → Prop} {E : XK} {i : Nat} {ts : TA} {Rr : List PyData → Prop} (hb : σ[i]? = some (some (.ref g))) (h : EbA K g ts σ B H Rr) (hp : ∀ ds, Rr ds → Pre ds) :
    Eb K g (tCall (Bg K Pre Post) [] E (tCons (tVar i) ts)) σ B H (fun d => ∃ ds, Rr ds ∧ Post ds d) := fun B1 H1 l b Q q => by
  refine ⟨.ref g, hb, ?_⟩
  refine h B1 H1 l b _ fun ds vs B2 H2 r l2 b2 hs => ⟨g, vs, B2, ds, by rw [List.append_nil], l2.h, b2, hs, hp ds r, fun d pd v B3 H3 l3 b3 hv => ?_⟩
  exact q d v B3 H3 ⟨ds, r, pd⟩ (l2.trans l3) b3 hv
theorem eb_sl {rr : V → Option Int → Option Int → Hp → VK → Prop} {P : Int → Prop} (h : Eb K g ta σ B H R1) (h2 : Eb K g tb σ B H (RI P)) (hr : ∀ x i, R1 x → P i → ∃ z, RS K rr x none (some i) z ∧ R z) : Eb K g (tSl rr ta tNoPart (tPart tb)) σ B H R := fun B1 H1 l b Q q =>
  h B1 H1 l b _ fun x v B2 H2 r1 l2 b2 hv => h2 B2 H2 (l.trans l2) b2 _ fun y w B3 H3 r2 l3 b3 hw => by
    obtain ⟨i, rfl, hi⟩ := r2
    cases hw
    obtain ⟨z, rs, rz⟩ := hr x i r1 hi
    exact ⟨i, rfl, rs B3 H3 v l3.h (hv.mono l3.b) Q fun o B4 H4 l4 ho => q z o B4 H4 rz ((l2.trans l3).trans l4.any) (b3.pure l4) ho⟩
theorem ebt_test {P : Bool → Prop} (h : Eb K g te σ B H (fun d => ∃ k, d = .bool k ∧ P k)) : EbT g (tTest te) σ B H P := fun B1 H1 l b Q q => h B1 H1 l b _ fun d v B2 H2 r l2 b2 hv => by
  obtain ⟨k, rfl, p⟩ := r
  cases hv
  exact ⟨k, rfl, q k B2 H2 p l2 b2⟩
theorem ebt_and {P1 P2 P : Bool → Prop} (h1 : EbT g t σ B H P1) (h2 : P1 true → EbT g u σ B H P2) (hf : P1 false → P false) (ht : ∀ k, P2 k → P k) : EbT g (tAnd t u) σ B H P := fun B1 H1 l b Q q => h1 B1 H1 l b _ fun k B2 H2 p l2 b2 => by
  cases k with
  | true => exact h2 p B2 H2 (l.trans l2) b2 _ fun j B3 H3 pj l3 b3 => q j B3 H3 (ht j pj) (l2.trans l3) b3
  | false => exact q false B2 H2 (hf p) l2 b2
/-! statements -/
variable {D : Ends} {tu tw tz : TS}
theorem b_set {i : Nat} (h : Eb K g te σ B H R) (e : Ex B H) (b : Bag g B H) (q : ∀ d v B' H', R d → Le [g] B H B' H' → Bag g B' H' → Dq K B' v d → tz D (σ.set i (some v)) H') : tSeq (tAsg te (gName i)) tz D σ H := h B H (Le.refl e) b _ q
theorem b_ret (h : Eb K g te σ B H R) (e : Ex B H) (b : Bag g B H) (q : ∀ d v B' H', R d → Le [g] B H B' H' → Bag g B' H' → Dq K B' v d → D.rt v H') : tRet te D σ H := h B H (Le.refl e) b _ q
/-- a number below n, from the bag -/
abbrev PickS (K : PySem.W.Frag) : Sp := Bg K (fun ds => ∃ n : Int, ds = [.int n] ∧ 0 < n ∧ n < 1073741824) fun ds d => ∃ n r : Int, ds = [.int n] ∧ d = .int r ∧ 0 ≤ r ∧ r < n
theorem eb_pick {E : XK} {i : Nat} {P : Int → Prop} (hb : σ[i]? = some (some (.ref g))) (h : Eb K g te σ B H (RI P)) (hp : ∀ n, P n → 0 < n ∧ n < 1073741824) : Eb K g (tCall (PickS K) [] E (tCons (tVar i) (tCons te tNil))) σ B H (RI fun r => ∃ n, P n ∧ 0 ≤ r ∧ r < n) :=
  (eb_call hb (eba_cons h eba_nil) fun ds r => by
    obtain ⟨d, r, rfl, ⟨n, rfl, pn⟩, rfl⟩ := r
    exact ⟨n, rfl, hp n pn⟩).imp fun d h => by
      obtain ⟨ds, ⟨x, r, rfl, ⟨n, rfl, pn⟩, rfl⟩, m, r, e, rfl, h1, h2⟩ := h
      cases e
      exact ⟨r, rfl, n, pn, h1, h2⟩
theorem eb_pickC {E : XK} {i : Nat} {n : Int} (hb : σ[i]? = some (some (.ref g))) (h : ∀ B1 H1, Le [g] B H B1 H1 → Ev K te σ B1 H1 (.int n)) (h0 : 0 < n) (h1 : n < 1073741824) : Eb K g (tCall (PickS K) [] E (tCons (tVar i) (tCons te tNil))) σ B H (RI fun r => 0 ≤ r ∧ r < n) :=
  (eb_pick (P := (· = n)) hb ((eb_of h).imp fun d e => ⟨n, e, rfl⟩) fun m e => by subst e; exact ⟨h0, h1⟩).imp fun d h => by
    obtain ⟨r, rfl, m, rfl, h1, h2⟩ := h
    exact ⟨r, rfl, h1, h2⟩
theorem ei_of {i : Int} (h : ∀ B1 H1, Le [g] B H B1 H1 → Ev K te σ B1 H1 (.int i)) : Eb K g te σ B H (RI (· = i)) := (eb_of h).imp fun d e => ⟨i, e, rfl⟩
theorem ei_op {r : R2} {f : Int → Int → Int} {P1 P2 P : Int → Prop} (ha : Eb K g ta σ B H (RI P1)) (hb : Eb K g tb σ B H (RI P2)) (hr : ∀ i j, P1 i → P2 j → RV K r (.int i) (.int j) (.int (f i j)) ∧ P (f i j)) : Eb K g (tOp r ta tb) σ B H (RI P) :=
  eb_op ha hb fun x y h1 h2 => by
    obtain ⟨i, rfl, p1⟩ := h1
    obtain ⟨j, rfl, p2⟩ := h2
    exact ⟨_, (hr i j p1 p2).1, _, rfl, (hr i j p1 p2).2⟩
theorem bg_len {Pre : List PyData → Prop} {Post : List PyData → PyData → Prop} {n : Nat} (hn : ∀ ds, Pre ds → ds.length = n) (vs : List V) (H : Hp) (Q : VK) (E : XK) (h : Bg K Pre Post vs H Q E) : vs.length = n + 1 := by
  obtain ⟨g, us, B, ds, rfl, _, _, h1, h2, _⟩ := h
  rw [List.length_cons, h1.length, hn ds h2]
end
section
variable {K : PySem.W.Frag} {g p : Addr} {σ : L2.St} {B H : Hp}
theorem ix_own {xs : List V} {i : Int} {v : V} {Q : VK} (h : H p = some (.lst xs)) (hv : atI xs i = some v) (q : Q v H) : rIx K (.ref p) (.int i) H Q := .inl (by
  exact ⟨p, xs, i, v, rfl, rfl, .inl (.inl h), hv, q⟩)
theorem idx_nat {r : Int} {n : Nat} (h0 : 0 ≤ r) (h1 : r < n) : seqIndex? r n = some r.toNat := by
  have h := (ixN_seq (n := n) (i := r) (j := r.toNat) (by unfold ixN; rw [if_pos h0, if_pos (by omega)])).1
  exact h
theorem yes_i {F : Bool → Hp → Prop} (h : F true H) : tYes σ H F := h
theorem erase_mapM {α β : Type} (f : α → β) : ∀ (l : List α) (j : Nat), (l.map f).eraseIdx j = (l.eraseIdx j).map f
  | [], _ => rfl
  | _ :: _, 0 => rfl
  | a :: l, j + 1 => by rw [List.map_cons, List.eraseIdx_cons_succ, List.eraseIdx_cons_succ, List.map_cons, erase_mapM f l j]
theorem erase_permM {α : Type} : ∀ (l : List α) (i : Nat) (y : α), l[i]? = some y → (y :: l.eraseIdx i).Perm l
  | [], i, y, h => by simp at h
  | a :: l, 0, y, h => by
    simp at h
    subst h
    exact .refl _
  | a :: l, i + 1, y, h => by
    rw [List.eraseIdx_cons_succ]
    exact (List.Perm.swap a y _).trans ((erase_permM l i y (by simpa using h)).cons a)
/-- [left.pop(pick(bag, len(left))) for k in range(n)] -/
theorem b_pops {ta : TA} {j a b : Nat} {vs : List Nat} {xs : List Int} {n : Int} {Q : VK} (hta : EvA K ta σ B H [.int n]) (e : Ex B H) (hb : Bag g B H) (hp : B p = none) (hpl : H p = some (.lst (xs.map V.int))) (hpg : p ≠ g)
    (hw : ∀ x, wipe ((wipe σ vs).set j (some x)) vs = wipe σ vs) (ha : ∀ x, ((wipe σ vs).set j (some x))[a]? = some (some (.ref p))) (hbb : ∀ x, ((wipe σ vs).set j (some x))[b]? = some (some (.ref g)))
    (hn0 : 0 ≤ n) (hn : n ≤ xs.length) (hx : xs.length ≤ 1000)
    (q : ∀ (acc rest : List Int) (v : V) B' H', (acc ++ rest).Perm xs → (acc.length : Int) = n → Le [p, g] B H B' H' → Bag g B' H' → Dq K B' v (.list (acc.map PyData.int)) → Q v H') :
    tLc (iRng1 ta) (gName j) tYes (tBM K "list" rPopAt (tVar a) (tCons (tCall (PickS K) [] E0 (tCons (tVar b) (tCons (tCB (rLenA K) (tCons (tVar a) tNil)) tNil))) tNil)) vs σ H Q := by
  refine hta B H (Le.refl e) _ fun us B1 H1 l1 hus => ?_
  obtain ⟨u, rfl, hu⟩ := dq1 hus
  cases hu
  refine ⟨n, rfl, by omega, by omega, fun D hD => ?_⟩
  have hb1 := hb.pure l1
  have hp1 : B1 p = none := l1.own hpl hp
  have hpl1 := l1.k p _ (by simp) hpl
  have hDg := hb1.ne hD
  have hDp : D ≠ p := fun z => by rw [z, hpl1] at hD; cases hD
  have hDb : B1 D = none := by
    cases z : B1 D with
    | none => rfl
    | some o => rw [l1.h D o z] at hD; cases hD
  have hsl : 1000 < sizeLine := by rw [sizeLine_eq]; decide
  refine lc_range (lo := 0) (n := n.toNat) (fun i Hi => ∃ (Bi : Hp) (acc rest : List Int), Le [D, p, g] B1 H1 Bi Hi ∧ Bag g Bi Hi ∧ Bi p = none ∧ Hi p = some (.lst (rest.map V.int)) ∧ Bi D = none ∧ Hi D = some (.lst (acc.map V.int)) ∧ (acc ++ rest).Perm xs ∧ acc.length = i) ?_ ?_ ?_
  · obtain ⟨x, y, z, hg⟩ := hb1.has
    exact ⟨B1, [], xs, Le.made l1.h hD, ⟨hb1.own, x, y, z, by rw [upd_ne (Ne.symm hDg)]; exact hg⟩, hp1, by rw [upd_ne (Ne.symm hDp)]; exact hpl1, hDb, upd_same, .refl _, rfl⟩
  · rintro i Hi hi ⟨Bi, acc, rest, li, bi, pi, pl, di, dl, pm, ln⟩
    have hlen := pm.length_eq
    rw [List.length_append] at hlen
    have hr0 : 0 < rest.length := by omega
    refine ⟨hw _, ?_⟩
    refine yes_i ?_
    rw [if_pos rfl]
    refine ⟨.ref p, ha _, .inl ⟨rfl, _, .inl (.inl pl)⟩, ?_⟩
    refine ⟨.ref g, hbb _, .ref p, ha _, p, rest.map V.int, rfl, .inl (.inl (.inl pl)), ?_⟩
    rw [List.length_map]
    refine ⟨g, [.int rest.length], Bi, [.int rest.length], rfl, li.h, bi, .cons (.int _) .nil, ⟨rest.length, rfl, by omega, by omega⟩, ?_⟩
    rintro d ⟨m, r, em, rfl, r0, r1⟩ v B2 H2 l2 b2 hv
    cases em
    cases hv
    have pl2 := l2.k p _ (by simp [hpg]) pl
    have p2 := l2.own pl pi
    have dl2 := l2.k D _ (by simp [hDg]) dl
    have d2 := l2.own dl di
    have hk : r.toNat < rest.length := by omega
    refine ⟨p, rest.map V.int, r, r.toNat, .int rest[r.toNat], rfl, rfl, pl2, by omega, by omega, by rw [List.length_map]; exact idx_nat r0 r1, by rw [List.getElem?_map, List.getElem?_eq_getElem hk]; rfl, ?_⟩
    refine ⟨acc.map V.int, by rw [upd_ne hDp]; exact dl2, by rw [List.length_map]; omega, B2, acc ++ [rest[r.toNat]], rest.eraseIdx r.toNat, ?_, ?_, p2, ?_, d2, ?_, ?_, by rw [List.length_append, ln]; rfl⟩
    · have q1 : Le [D, p, g] B2 H2 B2 (upd H2 p (.lst ((rest.map V.int).eraseIdx r.toNat))) := Le.put l2.h p2 (by simp)
      have q2 : Le [D, p, g] B2 (upd H2 p (.lst ((rest.map V.int).eraseIdx r.toNat))) B2 (upd (upd H2 p (.lst ((rest.map V.int).eraseIdx r.toNat))) D (.lst (acc.map V.int ++ [.int rest[r.toNat]]))) := Le.put q1.h d2 (by simp)
      exact (li.trans (l2.wk (by simp))).trans (q1.trans q2)
    · obtain ⟨x, y, z, hg⟩ := b2.has
      exact ⟨b2.own, x, y, z, by rw [upd_ne (Ne.symm hDg), upd_ne (Ne.symm hpg)]; exact hg⟩
    · rw [upd_ne (Ne.symm hDp), upd_same, erase_mapM V.int]
    · rw [upd_same, List.map_append]; rfl
    · refine .trans ?_ pm
      rw [List.append_assoc]
      refine List.Perm.append_left acc ?_
      exact erase_permM rest r.toNat _ (List.getElem?_eq_getElem hk)
  · rintro Hi ⟨Bi, acc, rest, li, bi, pi, pl, di, dl, pm, ln⟩
    have lf : Le [p, g] B1 H1 Bi Hi := li.local hD
    have lg := lf.give hD di dl
    refine q acc rest (.ref D) _ Hi pm (by omega) (l1.any.trans lg) ⟨by rw [upd_ne (Ne.symm hDg)]; exact bi.own, bi.has⟩ (.lst upd_same (dqInts _))
end
/-- a new bag -/
def BagS : Sp := fun vs H Q _ => ∃ c : Int, vs = [.int c] ∧ ∀ (p : Addr) (x y z : Int), H p = none → Q (.ref p) (upd H p (.lst [.int x, .int y, .int z]))
/-- the items of a drawn line -/
abbrev ItemsS (K : PySem.W.Frag) : Sp := Bg K (fun ds => ∃ n : Int, ds = [.int n] ∧ 0 ≤ n ∧ n ≤ 60) fun ds d => ∃ (n : Int) (xs : List Int), ds = [.int n] ∧ d = .list (xs.map PyData.int) ∧ (xs.length : Int) = n ∧ xs.Nodup ∧ ∀ k ∈ xs, 0 ≤ k ∧ k < 60
theorem perm_part {acc rest xs : List Int} (h : (acc ++ rest).Perm xs) (hn : xs.Nodup) : acc.Nodup ∧ ∀ k ∈ acc, k ∈ xs :=
  ⟨(List.nodup_append.mp (h.symm.nodup hn)).1, fun k hk => h.mem_iff.mp (List.mem_append_left _ hk)⟩
def ints60 : List Int := (List.range 60).map fun (i : Nat) => (i : Int)
theorem ite_b {k : Bool} {F G : Prop} (h1 : k = true → F) (h2 : k = false → G) : if k = true then F else G := by
  cases k with
  | true => rw [if_pos rfl]; exact h1 rfl
  | false => rw [if_neg (by decide)]; exact h2 rfl
theorem rgV60 : rgV 0 60 = ints60.map V.int := by decide +kernel
theorem ints60_nd : ints60.Nodup := by decide +kernel
theorem ints60_in : ∀ k ∈ ints60, 0 ≤ k ∧ k < 60 := by decide +kernel
end MA

set_option maxRecDepth 100000
set_option maxHeartbeats 2000000
namespace MA
open PySem PySem.Spec PyProof.Rows L2
/-! ## drawn scripts -/
def GoodC (xs : List Int) (c : PyData) : Prop := ∃ (w : PySem.Str) (i j : Int), c = .tuple [.str w, .int i, .int j] ∧ (w = "behind" ∨ w = "before") ∧ i ∈ xs ∧ j ∈ xs ∧ i ≠ j
abbrev ScriptS (K : PySem.W.Frag) : Sp := Bg K (fun ds => ∃ (xs : List Int) (m : Int), ds = [.list (xs.map PyData.int), .int m] ∧ 2 ≤ xs.length ∧ xs.length ≤ 60 ∧ xs.Nodup ∧ 1 ≤ m ∧ m ≤ 1000)
  fun ds d => ∃ (xs : List Int) (m : Int) (cs : List PyData), ds = [.list (xs.map PyData.int), .int m] ∧ d = .tuple cs ∧ 1 ≤ cs.length ∧ (cs.length : Int) ≤ m ∧ ∀ c ∈ cs, GoodC xs c
abbrev CaseS (K : PySem.W.Frag) : Sp := Bg K (fun ds => ∃ (m l : Int), ds = [.int m, .int l] ∧ 2 ≤ m ∧ m ≤ 60 ∧ 1 ≤ l ∧ l ≤ 1000)
  fun ds d => ∃ (m l : Int) (xs : List Int) (cs : List PyData), ds = [.int m, .int l] ∧ d = .tuple [.tuple (xs.map PyData.int), .tuple cs] ∧ 2 ≤ xs.length ∧ (xs.length : Int) ≤ m ∧ xs.Nodup ∧ (∀ k ∈ xs, 0 ≤ k ∧ k < 60) ∧ 1 ≤ cs.length ∧ (cs.length : Int) ≤ l ∧ ∀ c ∈ cs, GoodC xs c
/-- some of the items -/
structure SomeL (xs ss : List Int) : Prop where
  two : 2 ≤ ss.length
  small : ss.length ≤ 60
  nd : ss.Nodup
  sub : ∀ k ∈ ss, k ∈ xs
theorem SomeL.take {xs ss : List Int} (h : SomeL xs ss) {i : Int} (hi : 2 ≤ i) : SomeL xs (ss.take i.toNat) :=
  ⟨by rw [List.length_take]; have := h.two; omega, by rw [List.length_take]; have := h.small; omega, h.nd.sublist (List.take_sublist _ _), fun k hk => h.sub k (List.mem_of_mem_take hk)⟩
theorem cut_ints (ss : List Int) {i : Int} (hi : 0 ≤ i) : cutG (ss.map PyData.int) none (some i) = (ss.take i.toNat).map PyData.int := by
  have := cut_to (ss.map PyData.int) i.toNat
  rw [show ((i.toNat : Nat) : Int) = i by omega] at this
  rw [this, List.map_take]
theorem nd_get {ss : List Int} (h : ss.Nodup) {i j : Nat} {a b : Int} (hi : ss[i]? = some a) (hj : ss[j]? = some b) (hne : i ≠ j) : a ≠ b := fun e => by
  subst e
  obtain ⟨h1, e1⟩ := List.getElem?_eq_some_iff.mp hi
  obtain ⟨h2, e2⟩ := List.getElem?_eq_some_iff.mp hj
  rw [List.nodup_iff_pairwise_ne, List.pairwise_iff_getElem] at h
  rcases Nat.lt_or_gt_of_ne hne with z | z
  · exact h i j h1 h2 z (by rw [e1, e2])
  · exact h j i h2 h1 z (by rw [e1, e2])
theorem round_ne {a r n : Int} (h0 : 0 ≤ a) (h1 : a < n) (h2 : 0 ≤ r) (h3 : r < n - 1) : (a + 1 + r) % n ≠ a := by
  by_cases z : a + 1 + r < n
  · rw [Int.emod_eq_of_lt (by omega) z]; omega
  · have h := Int.add_mul_emod_self_left (a + 1 + r - n) n 1
    rw [Int.mul_one, show a + 1 + r - n + n = a + 1 + r by omega] at h
    have h4 : (a + 1 + r - n) % n = a + 1 + r - n := Int.emod_eq_of_lt (by omega) (by omega)
    rw [h, h4]
    omega
theorem next_ne {k n : Int} (h0 : 0 ≤ k) (h1 : 2 ≤ n) : k % n ≠ (k + 1) % n := by
  have e : (k + 1) % n = (k % n + 1 + 0) % n := by rw [Int.add_zero, Int.emod_add_emod]
  rw [e]
  exact (round_ne (Int.emod_nonneg _ (by omega)) (Int.emod_lt_of_pos _ (by omega)) (by omega) (by omega)).symm
def rInt1 : List V → Hp → VK → Prop := fun xs H Q => (∃ i, xs = [.int i] ∧ Q (.int i) H) ∨ ∃ k, xs = [.bl k] ∧ Q (.int (if k then 1 else 0)) H
section
variable {K : PySem.W.Frag} {g p : Addr} {σ : L2.St} {B H : Hp} {ta tb te : TE} {t u : TT} {d : PyData} {R R1 Rb : PyData → Prop} {D : Ends} {tu tw tz : TS}
theorem rc_int1 {k : Bool} : RC K rInt1 [.bool k] (.int (if k then 1 else 0)) := fun B H vs e hvs Q q => by
  obtain ⟨v, rfl, hv⟩ := dq1 hvs
  cases hv
  exact .inr ⟨k, rfl, q _ B H (Le.refl e) (.int _)⟩
/-- an if without else that keeps a word of the slots -/
theorem q_whenS {k : Bool} (I : L2.St → Hp → Prop) (h : EvT t σ B H k) (e : Ex B H) (h1 : k = true → ∀ B' H', Le [] B H B' H' → ∀ N : L2.St → Hp → Prop, (∀ σ' B2 H2, Le [] B' H' B2 H2 → I σ' B2 → N σ' H2) → tu { D with nx := N } σ H') (h2 : k = false → ∀ B' H', Le [] B H B' H' → I σ B')
    (hz : ∀ σ' B' H', Le [] B H B' H' → I σ' B' → tz D σ' H') : tSeq (tIfS t tu tNext) tz D σ H :=
  q_when h e (fun hk B' H' l => h1 hk B' H' l _ fun σ' B2 H2 l2 i => hz σ' B2 H2 (l.trans l2) i) fun hk B' H' l => hz σ B' H' l (h2 hk B' H' l)
theorem b_if {P : Bool → Prop} (h : EbT g t σ B H P) (e : Ex B H) (b : Bag g B H) (h1 : P true → ∀ B' H', Le [g] B H B' H' → Bag g B' H' → tu D σ H') (h2 : P false → ∀ B' H', Le [g] B H B' H' → Bag g B' H' → tw D σ H') : tIfS t tu tw D σ H := h B H (Le.refl e) b _ fun k B' H' pk l b' => by
  cases k with
  | true => exact h1 pk B' H' l b'
  | false => exact h2 pk B' H' l b'
/-- p.append(..), p a list of ours -/
theorem b_append {i : Nat} {vs : List V} (hi : σ[i]? = some (some (.ref p))) (h : Eb K g te σ B H R) (e : Ex B H) (b : Bag g B H) (hp : B p = none) (hpl : H p = some (.lst vs)) (hpg : p ≠ g) (hz : vs.length < 100000)
    (q : ∀ d v B' H', R d → Le [p, g] B H B' H' → Bag g B' H' → B' p = none → H' p = some (.lst (vs ++ [v])) → Dq K B' v d → D.nx σ H') : tDrop (tBM K "list" rAppend (tVar i) (tCons te tNil)) D σ H := by
  refine ⟨.ref p, hi, .inl ⟨rfl, vs, .inl (.inl hpl)⟩, ?_⟩
  refine h B H (Le.refl e) b _ fun d v B' H' r l b' hv => ?_
  have hp' := l.own hpl hp
  have hpl' := l.k p _ (by simp [hpg]) hpl
  have hsl : 100000 < sizeLine := by rw [sizeLine_eq]; decide
  refine ⟨p, vs, v, rfl, rfl, hpl', by omega, ?_⟩
  have l2 : Le [p, g] B' H' B' (upd H' p (.lst (vs ++ [v]))) := Le.put l.h hp' (by simp)
  obtain ⟨x, y, z, hg⟩ := b'.has
  exact q d v B' _ r ((l.wk (by simp)).trans l2) ⟨b'.own, x, y, z, by rw [upd_ne (Ne.symm hpg)]; exact hg⟩ hp' upd_same hv
/-- what is read of a list of ours -/
theorem ev_own {vs : List V} {cs : List PyData} (h : ∀ B1, B1 p = some (.lst vs) → Dq K B1 (.ref p) (.list cs) → Ex B1 H → (∀ a o, B a = some o → B1 a = some o) → Ev K te σ B1 H d) (hq : DqAll K B vs cs) (e : Ex B H) (hp : B p = none) (hpl : H p = some (.lst vs)) (sc : ∀ {H1 H2 : Hp} {v : V}, Dq K H1 v d → Dq K H2 v d) : Ev K te σ B H d :=
  Ev.own (h (upd B p (.lst vs)) upd_same (.lst upd_same (hq.mono (Evl.Ex.new hp))) (ex_give e hpl) (Evl.Ex.new hp)) hpl hp sc
theorem sc_int {i : Int} : ∀ {H1 H2 : Hp} {v : V}, Dq K H1 v (.int i) → Dq K H2 v (.int i) := fun h => by cases h; exact .int _
theorem sc_bool {i : Bool} : ∀ {H1 H2 : Hp} {v : V}, Dq K H1 v (.bool i) → Dq K H2 v (.bool i) := fun h => by cases h; exact .bl _
theorem q_asgR {i : Nat} (h : te σ H fun v H' => tz D (σ.set i (some v)) H') : tSeq (tAsg te (gName i)) tz D σ H := h
end
end MA

set_option maxRecDepth 100000
set_option maxHeartbeats 2000000
namespace MA
open PySem PySem.Spec PyProof.Rows L2

/-! ## small plain data: what repr needs -/
structure Sm (k w : Nat) (d : PyData) : Prop where
  sh : d.showable = true
  lf : d.leavesShort 30 = true
  wt : d.weight ≤ w
  dp : d.depth ≤ k
def Pl (k w : Nat) (d : PyData) : Prop := Sm k w d ∧ noList d = true ∧ d.hasDict = false
def Od (k w : Nat) (d : PyData) : Prop := Sm k w d ∧ (d.hasDict = false ∨ noList d = true)
theorem Sm.mono {k w k' w' : Nat} {d : PyData} (h : Sm k w d) (hk : k ≤ k') (hw : w ≤ w') : Sm k' w' d := ⟨h.sh, h.lf, Nat.le_trans h.wt hw, Nat.le_trans h.dp hk⟩
theorem Pl.mono {k w k' w' : Nat} {d : PyData} (h : Pl k w d) (hk : k ≤ k') (hw : w ≤ w') : Pl k' w' d := ⟨h.1.mono hk hw, h.2⟩
theorem Od.mono {k w k' w' : Nat} {d : PyData} (h : Od k w d) (hk : k ≤ k') (hw : w ≤ w') : Od k' w' d := ⟨h.1.mono hk hw, h.2⟩
theorem Pl.od {k w : Nat} {d : PyData} (h : Pl k w d) : Od k w d := ⟨h.1, .inl h.2.2⟩
section
variable {k w W : Nat}
theorem all_sh : ∀ {xs : List PyData}, (∀ x ∈ xs, x.showable = true) → PyData.showableAll xs = true
  | [], _ => by simp [PyData.showableAll]
  | x :: xs, h => by simp only [PyData.showableAll, h x (List.mem_cons_self ..), all_sh fun y hy => h y (List.mem_cons_of_mem _ hy), Bool.and_self]
theorem all_lf : ∀ {xs : List PyData}, (∀ x ∈ xs, x.leavesShort 30 = true) → PyData.leavesShortAll 30 xs = true
  | [], _ => by simp [PyData.leavesShortAll]
  | x :: xs, h => by simp only [PyData.leavesShortAll, h x (List.mem_cons_self ..), all_lf fun y hy => h y (List.mem_cons_of_mem _ hy), Bool.and_self]
theorem all_wt : ∀ {xs : List PyData}, (∀ x ∈ xs, x.weight ≤ w) → PyData.weightAll xs ≤ xs.length * (w + 1)
  | [], _ => by simp [PyData.weightAll]
  | x :: xs, h => by
    have h1 := h x (List.mem_cons_self ..)
    have h2 := all_wt fun y hy => h y (List.mem_cons_of_mem x hy)
    simp only [PyData.weightAll, List.length_cons, Nat.add_mul, Nat.one_mul]
    omega
theorem all_dp : ∀ {xs : List PyData}, (∀ x ∈ xs, x.depth ≤ k) → PyData.depthAll xs ≤ k
  | [], _ => by simp [PyData.depthAll]
  | x :: xs, h => by
    have h1 := h x (List.mem_cons_self ..)
    have h2 := all_dp fun y hy => h y (List.mem_cons_of_mem x hy)
    simp only [PyData.depthAll]
    omega
theorem all_nl : ∀ {xs : List PyData}, (∀ x ∈ xs, noList x = true) → noListAll xs = true
  | [], _ => by simp [noListAll]
  | x :: xs, h => by simp only [noListAll, h x (List.mem_cons_self ..), all_nl fun y hy => h y (List.mem_cons_of_mem _ hy), Bool.and_self]
theorem all_nd : ∀ {xs : List PyData}, (∀ x ∈ xs, x.hasDict = false) → PyData.hasDictAll xs = false
  | [], _ => by simp [PyData.hasDictAll]
  | x :: xs, h => by simp only [PyData.hasDictAll, h x (List.mem_cons_self ..), all_nd fun y hy => h y (List.mem_cons_of_mem _ hy), Bool.or_self]
theorem Sm.tup {xs : List PyData} (h : ∀ x ∈ xs, Sm k w x) (hW : xs.length * (w + 1) ≤ W) : Sm (k + 1) W (.tuple xs) :=
  ⟨by simpa only [PyData.showable] using all_sh fun x hx => (h x hx).sh, by simpa only [PyData.leavesShort] using all_lf fun x hx => (h x hx).lf,
    by simp only [PyData.weight]; exact Nat.le_trans (all_wt fun x hx => (h x hx).wt) hW, by simp only [PyData.depth]; exact Nat.succ_le_succ (all_dp fun x hx => (h x hx).dp)⟩
theorem Sm.lst {xs : List PyData} (h : ∀ x ∈ xs, Sm k w x) (hW : xs.length * (w + 1) ≤ W) : Sm (k + 1) W (.list xs) :=
  ⟨by simpa only [PyData.showable] using all_sh fun x hx => (h x hx).sh, by simpa only [PyData.leavesShort] using all_lf fun x hx => (h x hx).lf,
    by simp only [PyData.weight]; exact Nat.le_trans (all_wt fun x hx => (h x hx).wt) hW, by simp only [PyData.depth]; exact Nat.succ_le_succ (all_dp fun x hx => (h x hx).dp)⟩
theorem len_mul {n m : Nat} (h : n ≤ m) (hW : m * (w + 1) ≤ W) : n * (w + 1) ≤ W := Nat.le_trans (Nat.mul_le_mul_right _ h) hW
theorem Pl.tup {xs : List PyData} (h : ∀ x ∈ xs, Pl k w x) (hW : xs.length * (w + 1) ≤ W) : Pl (k + 1) W (.tuple xs) :=
  ⟨.tup (fun x hx => (h x hx).1) hW, by simp only [noList]; exact all_nl fun x hx => (h x hx).2.1, by simp only [PyData.hasDict]; exact all_nd fun x hx => (h x hx).2.2⟩
theorem Od.lst {xs : List PyData} (h : ∀ x ∈ xs, Pl k w x) (hW : xs.length * (w + 1) ≤ W) : Od (k + 1) W (.list xs) :=
  ⟨.lst (fun x hx => (h x hx).1) hW, .inl (by simp only [PyData.hasDict]; exact all_nd fun x hx => (h x hx).2.2)⟩
/-- one odd value among plain ones -/
theorem Od.tup {o : PyData} {xs : List PyData} (ho : Od k w o) (h : ∀ x ∈ xs, x = o ∨ Pl k w x) (hW : xs.length * (w + 1) ≤ W) : Od (k + 1) W (.tuple xs) := by
  have hs : ∀ x ∈ xs, Sm k w x := fun x hx => (h x hx).elim (fun e => e ▸ ho.1) fun p => p.1
  refine ⟨.tup hs hW, ?_⟩
  rcases ho.2 with z | z
  · exact .inl (by simp only [PyData.hasDict]; exact all_nd fun x hx => (h x hx).elim (fun e => e ▸ z) fun p => p.2.2)
  · exact .inr (by simp only [noList]; exact all_nl fun x hx => (h x hx).elim (fun e => e ▸ z) fun p => p.2.1)
end
/-! atoms -/
def plB (d : PyData) : Bool := d.showable && d.leavesShort 30 && decide (d.weight ≤ 70) && decide (d.depth ≤ 0) && noList d && !d.hasDict
theorem pl_of {d : PyData} (h : plB d = true) : Pl 0 70 d := by
  simp only [plB, Bool.and_eq_true, decide_eq_true_eq, Bool.not_eq_true'] at h
  exact ⟨⟨h.1.1.1.1.1, h.1.1.1.1.2, h.1.1.1.2, h.1.1.2⟩, h.1.2, h.2⟩
theorem pl_items : ∀ i ∈ ints60, plB (.int i) = true := by decide +kernel
theorem pl_int {i : Int} (h0 : 0 ≤ i) (h1 : i < 60) : Pl 0 70 (.int i) := by
  refine pl_of (pl_items i ?_)
  unfold ints60
  exact List.mem_map.mpr ⟨i.toNat, List.mem_range.mpr (by omega), by omega⟩
theorem pl_word {x : PySem.Str} (h : x = "behind" ∨ x = "before") : Pl 0 70 (.str x) := by
  rcases h with rfl | rfl <;> exact pl_of (by decide +kernel)
/-- what the law shows -/
def Ov (d : PyData) : Prop := Od 6 400000 d ∧ tlen d ≤ 1000
theorem Ov.repr {d : PyData} (h : Ov d) : d.showable = true ∧ (d.hasDict = false ∨ noList d = true) ∧ d.shown.length ≤ sizeLine ∧ d.depth ≤ 60 := by
  refine ⟨h.1.1.sh, h.1.2, ?_, Nat.le_trans h.1.1.dp (by decide)⟩
  have h1 := PyData.shown_le 30 (by decide) d h.1.1.lf
  have h2 := h.1.1.wt
  rw [sizeLine_eq]
  omega
/-! ## values of which something holds -/
section
variable (K : PySem.W.Frag)
def EvV (te : TE) (σ : L2.St) (B H : Hp) (P : PyData → Prop) : Prop := ∃ d, Ev K te σ B H d ∧ P d
def EaV (ta : TA) (σ : L2.St) (B H : Hp) (P : PyData → Prop) (n : Nat) : Prop := ∃ ds, EvA K ta σ B H ds ∧ (∀ d ∈ ds, P d) ∧ ds.length = n
def EvC (c : List PyData → PyData) (te : TE) (σ : L2.St) (B H : Hp) (P : PyData → Prop) (n : Nat) : Prop := ∃ ds, Ev K te σ B H (c ds) ∧ (∀ d ∈ ds, P d) ∧ ds.length ≤ n
end
section
variable {K : PySem.W.Frag} {σ : L2.St} {B H : Hp} {te ta tb : TE} {P : PyData → Prop} {n m : Nat}
theorem vv (h : Ev K te σ B H d) (hp : P d) : EvV K te σ B H P := ⟨d, h, hp⟩
theorem va_nil : EaV K tNil σ B H P 0 := ⟨[], ea_nil, by simp, rfl⟩
theorem va_cons {tr : TA} (h : EvV K te σ B H P) (hr : EaV K tr σ B H P n) : EaV K (tCons te tr) σ B H P (n + 1) := by
  obtain ⟨d, h1, h2⟩ := h
  obtain ⟨ds, h3, h4, h5⟩ := hr
  exact ⟨d :: ds, ea_cons h1 h3, fun x hx => (List.mem_cons.mp hx).elim (fun e => e ▸ h2) (h4 x), by rw [List.length_cons, h5]⟩
theorem vc_lst {ts : TA} (h : EaV K ts σ B H P n) (hz : n ≤ sizeLine) : EvC K .list (tLst ts) σ B H P n := by
  obtain ⟨ds, h1, h2, h3⟩ := h
  exact ⟨ds, ev_lst h1 (by omega), h2, by omega⟩
theorem vc_tup {ts : TA} (h : EaV K ts σ B H P n) (hz : n ≤ sizeLine) : EvC K .tuple (tTup ts) σ B H P n := by
  obtain ⟨ds, h1, h2, h3⟩ := h
  exact ⟨ds, ev_tup h1 (by omega), h2, by omega⟩
theorem vc_addL (h1 : EvC K .list ta σ B H P n) (h2 : EvC K .list tb σ B H P m) (hz : n + m ≤ sizeLine) : EvC K .list (tOp (rAddA K) ta tb) σ B H P (n + m) := by
  obtain ⟨as, a1, a2, a3⟩ := h1
  obtain ⟨bs, b1, b2, b3⟩ := h2
  exact ⟨as ++ bs, ev_op a1 b1 (rv_addL (by omega)), fun x hx => (List.mem_append.mp hx).elim (a2 x) (b2 x), by rw [List.length_append]; omega⟩
theorem vc_addT (h1 : EvC K .tuple ta σ B H P n) (h2 : EvC K .tuple tb σ B H P m) (hz : n + m ≤ sizeLine) : EvC K .tuple (tOp (rAddA K) ta tb) σ B H P (n + m) := by
  obtain ⟨as, a1, a2, a3⟩ := h1
  obtain ⟨bs, b1, b2, b3⟩ := h2
  exact ⟨as ++ bs, ev_op a1 b1 (rv_addT (by omega)), fun x hx => (List.mem_append.mp hx).elim (a2 x) (b2 x), by rw [List.length_append]; omega⟩
theorem mem_cut {α : Type} {xs : List α} {lo hi : Option Int} {x : α} (h : x ∈ cutG xs lo hi) : x ∈ xs := List.mem_of_mem_drop (List.mem_of_mem_take h)
theorem len_cut {α : Type} (xs : List α) (lo hi : Option Int) : (cutG xs lo hi).length ≤ xs.length := by
  unfold cutG
  rw [List.length_take, List.length_drop]
  omega
theorem vc_sl {tl th : TO} {lo hi : Option Int} (h : EvC K .tuple te σ B H P n) (h1 : EvO tl σ B H lo) (h2 : EvO th σ B H hi) : EvC K .tuple (tSl (rSlAny K) te tl th) σ B H P n := by
  obtain ⟨as, a1, a2, a3⟩ := h
  exact ⟨_, ev_sl a1 h1 h2 rs_T, fun x hx => a2 x (mem_cut hx), Nat.le_trans (len_cut _ _ _) a3⟩
theorem vc_back (h : EvC K .tuple te σ B H P n) : EvC K .tuple (tBack K te) σ B H P n := by
  obtain ⟨as, a1, a2, a3⟩ := h
  exact ⟨_, ev_back a1, fun x hx => a2 x (List.mem_reverse.mp hx), by rw [List.length_reverse]; exact a3⟩
theorem vc_mul {k : Int} {xs : List PyData} (a1 : Ev K te σ B H (.tuple xs)) (h0 : xs ≠ []) (a2 : ∀ x ∈ xs, P x) (h1 : xs.length ≤ 1) (h2 : 2 ≤ k) (h3 : k ≤ 1000) : EvC K .tuple (tOp (rMulA K) te (tC (.int k))) σ B H P k.toNat := by
  refine ⟨_, ev_op a1 ev_i (rv_mulT h0 h2 h3 (by omega)), fun x hx => ?_, ?_⟩
  · obtain ⟨l, hl, hx⟩ := List.mem_flatten.mp hx
    rw [List.eq_of_mem_replicate hl] at hx
    exact a2 x hx
  · rw [List.length_flatten, List.map_replicate, List.sum_replicate_nat]
    have := Nat.mul_le_mul_left k.toNat h1
    omega
theorem vc_lstT (h : EvC K .tuple te σ B H P n) : EvC K .list (tCB (rLstA K) (tCons te tNil)) σ B H P n := by
  obtain ⟨as, a1, a2, a3⟩ := h
  exact ⟨as, ev_cb (ea_cons a1 ea_nil) rc_lstT, a2, a3⟩
theorem vc_val {c : List PyData → PyData} {R : PyData → Prop} (h : EvC K c te σ B H P n) (hr : ∀ ds, (∀ d ∈ ds, P d) → ds.length ≤ n → R (c ds)) : EvV K te σ B H R := by
  obtain ⟨ds, h1, h2, h3⟩ := h
  exact ⟨_, h1, hr ds h2 h3⟩
theorem vc_var {c : List PyData → PyData} {ds : List PyData} {i : Nat} {v : V} (h : σ[i]? = some (some v)) (hd : Dq K B v (c ds)) (h2 : ∀ d ∈ ds, P d) (h3 : ds.length ≤ n) : EvC K c (tVar i) σ B H P n := ⟨ds, ev_var h hd, h2, h3⟩
theorem vc_imp {c : List PyData → PyData} {R : PyData → Prop} (h : EvC K c te σ B H P n) (hr : ∀ d, P d → R d) : EvC K c te σ B H R n := by
  obtain ⟨ds, h1, h2, h3⟩ := h
  exact ⟨ds, h1, fun d hd => hr d (h2 d hd), h3⟩
theorem q_setC {c : List PyData → PyData} {D : Ends} {tz : TS} {i : Nat} (h : EvC K c te σ B H P n) (e : Ex B H) (q : ∀ ds v B' H', (∀ d ∈ ds, P d) → ds.length ≤ n → Le [] B H B' H' → Dq K B' v (c ds) → tz D (σ.set i (some v)) H') : tSeq (tAsg te (gName i)) tz D σ H := by
  obtain ⟨ds, h1, h2, h3⟩ := h
  exact q_set h1 e fun v B' H' l hv => q ds v B' H' h2 h3 l hv
theorem s_retC {c : List PyData → PyData} {D : Ends} (h : EvC K c te σ B H P n) (e : Ex B H) (q : ∀ ds v B' H', (∀ d ∈ ds, P d) → ds.length ≤ n → Le [] B H B' H' → Dq K B' v (c ds) → D.rt v H') : tRet te D σ H := by
  obtain ⟨ds, h1, h2, h3⟩ := h
  exact s_ret h1 e fun v B' H' l hv => q ds v B' H' h2 h3 l hv
/-! more expressions -/
theorem ev_neg {i : Int} : Ev K (tUn (rU fun i => .int (-i)) (tC (.int i))) σ B H (.int (-i)) := ev_un ev_i fun B H v e hv Q q => by
  cases hv
  exact ⟨i, rfl, q _ B H (Le.refl e) (.int _)⟩
theorem ev_dict0 : Ev K tDNewK σ B H (.dict []) := fun B1 H1 l Q q p hp => q (.ref p) _ _ (Le.new l.h hp) (by
  have h := Dq.dct (K := K) (H := upd B1 p (.dK [])) (a := p) (kvs := []) (ds := []) upd_same .nil
  exact h)
theorem rc_str {i : Int} (h : i.natAbs.log2 < 1920) : RC K rStrI [.int i] (.str (toString i)) := fun B H vs e hvs Q q => by
  obtain ⟨v, rfl, hv⟩ := dq1 hvs
  cases hv
  exact ⟨i, rfl, h, q _ B H (Le.refl e) (.str _)⟩
theorem ev_bmS {r : V → List V → Hp → VK → Prop} {s : PySem.Str} {ts : TA} {ds : List PyData} {z : PyData} (ho : Ev K te σ B H (.str s)) (ha : EvA K ts σ B H ds) (hr : RM K r (.str s) ds z) : Ev K (tBM K "str" r te ts) σ B H z := fun B1 H1 l Q q =>
  ho B1 H1 l _ fun v B2 H2 l2 hv => ⟨by cases hv; rfl, ha B2 H2 (l.trans l2) _ fun vs B3 H3 l3 hs => hr B3 H3 v vs l3.h (hv.mono l3.b) hs Q fun o B4 H4 l4 ho => q o B4 H4 ((l2.trans l3).trans l4) ho⟩
theorem ev_bm0S {r : V → List V → Hp → VK → Prop} {s : PySem.Str} {z : PyData} (ho : Ev K te σ B H (.str s)) (hr : RM K r (.str s) [] z) : Ev K (tBM0 K "str" r te) σ B H z := fun B1 H1 l Q q =>
  ho B1 H1 l _ fun v B2 H2 l2 hv => ⟨by cases hv; rfl, hr B2 H2 v [] l2.h hv .nil Q fun o B4 H4 l4 ho => q o B4 H4 (l2.trans l4) ho⟩
def rJoinA (K : PySem.W.Frag) : V → List V → Hp → VK → Prop := fun x xs H Q => ∃ a p, ∃ ys : List PySem.Str, x = .str a ∧ xs = [.ref p] ∧ (SqL K H p (ys.map V.str) ∨ SqT K H p (ys.map V.str)) ∧
    (ys.map (·.length)).sum + ys.length * a.length ≤ 16777216 ∧ Q (.str (Txt.join a ys)) H
theorem rm_join {a : PySem.Str} {ys : List PySem.Str} (h : (ys.map (·.length)).sum + ys.length * a.length ≤ 16777216) : RM K (rJoinA K) (.str a) [.list (ys.map PyData.str)] (.str (Txt.join a ys)) := fun B H v vs e hv hvs Q q => by
  cases hv
  obtain ⟨u, rfl, hu⟩ := dq1 hvs
  cases hu with
  | lst h1 q1 =>
    cases ofStrs q1
    exact ⟨a, _, ys, rfl, rfl, .inl (.inl (.inl (e _ _ h1))), h, q _ B H (Le.refl e) (.str _)⟩
def rUpA : V → List V → Hp → VK → Prop := fun x xs H Q => ∃ a, x = .str a ∧ xs = [] ∧ a.length ≤ 5592405 ∧ Q (.str (Txt.upper a)) H
theorem rm_up {a : PySem.Str} (h : a.length ≤ 5592405) : RM K rUpA (.str a) [] (.str (Txt.upper a)) := fun B H v vs e hv hvs Q q => by
  cases hv
  cases hvs
  exact ⟨a, rfl, rfl, h, q _ B H (Le.refl e) (.str _)⟩
theorem rgV_nat (n : Nat) : rgV 0 n = ((List.range n).map fun (i : Nat) => (i : Int)).map V.int := by
  unfold rgV
  rw [List.map_map, show ((n : Int) - 0).toNat = n by omega]
  refine List.map_congr_left fun i _ => ?_
  show V.int (0 + (i : Int)) = V.int i
  rw [Int.zero_add]
theorem ev_tupRg {n : Nat} (hn : n ≤ 1000) : Ev K (tTupRg (tRg1 (tC (.int (n : Nat))))) σ B H (.tuple (((List.range n).map fun (i : Nat) => (i : Int)).map PyData.int)) := fun B1 H1 l Q q => by
  refine ⟨(n : Nat), rfl, .of_le (by decide) (by omega) (by decide) (by omega), fun p hp => ?_⟩
  rw [rgV_nat]
  exact q (.ref p) _ _ (Le.new l.h hp) (.tup (.inl (.inl upd_same)) (dqInts _))
def tokB (k : Int) : Bool := decide ((toString k : PySem.Str).length ≤ 2) && (toString k : PySem.Str).cps.toList.all fun c => decide (c < 16 ^ 8)
theorem tok_items : ∀ k ∈ ints60, tokB k = true := by decide +kernel
theorem tok_item {k : Int} (h0 : 0 ≤ k) (h1 : k < 60) : tokB k = true := by
  refine tok_items k ?_
  unfold ints60
  exact List.mem_map.mpr ⟨k.toNat, List.mem_range.mpr (by omega), by omega⟩
/-- a short text of ints: its signs -/
theorem pl_join {ns : List Int} (h : ∀ k ∈ ns, 0 ≤ k ∧ k < 60) (hl : ns.length ≤ 60) : (((ns.map fun k => (toString k : PySem.Str)).map (·.length)).sum + (ns.map fun k => (toString k : PySem.Str)).length * (" " : PySem.Str).length ≤ 16777216) ∧ Pl 0 400 (.str (Txt.join " " (ns.map fun k => (toString k : PySem.Str)))) := by
  have hk : ∀ k ∈ ns, (toString k : PySem.Str).length ≤ 2 ∧ ∀ c ∈ (toString k : PySem.Str).cps.toList, c < 16 ^ 8 := fun k hk => by
    have := tok_item (h k hk).1 (h k hk).2
    simp only [tokB, Bool.and_eq_true, decide_eq_true_eq, List.all_eq_true] at this
    exact this
  have hs : ∀ ms : List Int, (∀ k ∈ ms, (toString k : PySem.Str).length ≤ 2) → ((ms.map fun k => (toString k : PySem.Str)).map (·.length)).sum ≤ 2 * ms.length := by
    intro ms
    induction ms with
    | nil => intro _; exact Nat.le_refl _
    | cons a r ih =>
      intro h
      have h1 := h a (List.mem_cons_self ..)
      have h2 := ih fun k hk => h k (List.mem_cons_of_mem _ hk)
      simp only [List.map_cons, List.sum_cons, List.length_cons] at h2 ⊢
      omega
  have h1 := hs ns fun k hk' => (hk k hk').1
  have h2 : (" " : PySem.Str).length = 1 := by rfl
  have h3 : (ns.map fun k => (toString k : PySem.Str)).length = ns.length := List.length_map ..
  refine ⟨by rw [h2, h3]; omega, ⟨by rfl, ?_, ?_, by show 0 ≤ 0; decide⟩, rfl, rfl⟩
  · rw [TL.join_eq]
    simp only [PyData.leavesShort, List.all_eq_true, decide_eq_true_eq]
    intro c hc
    rcases (PyProof.Rows.mem_join _ c _).mp hc with ⟨t, ht, hc⟩ | ⟨_, hc⟩
    · obtain ⟨k, hk', rfl⟩ := List.mem_map.mp ht
      exact (hk k hk').2 c hc
    · have : ∀ c ∈ (" " : PySem.Str).cps.toList, c < 16 ^ 8 := by decide
      exact this c hc
  · rw [TL.join_eq]
    have := StrLaws.join_length_le " " (ns.map fun k => (toString k : PySem.Str))
    rw [h2, h3] at this
    show (PySem.Str.join " " _).length ≤ 400
    omega
end
/-! odd values and the lists of them -/
def OddV (d : PyData) : Prop := Od 1 70 d ∧ tlen d ≤ 1000
def CmdV (d : PyData) : Prop := Od 2 300 d ∧ tlen d ≤ 1000
theorem odd_of {d : PyData} (h : plB d = true) (ht : tlen d = 0 := by rfl) : OddV d := ⟨(pl_of h).od.mono (by decide) (by decide), by omega⟩
theorem odd_int {i : Int} (h0 : 0 ≤ i) (h1 : i < 60) : OddV (.int i) := ⟨(pl_int h0 h1).od.mono (by decide) (by decide), by show 0 ≤ 1000; decide⟩
theorem odd_t0 : OddV (.tuple []) := ⟨(Pl.tup (k := 0) (w := 0) (W := 70) (xs := []) (by simp) (by decide)).od, by show 0 ≤ 1000; decide⟩
theorem odd_l0 : OddV (.list []) := ⟨Od.lst (k := 0) (w := 0) (W := 70) (xs := []) (by simp) (by decide), by show 0 ≤ 1000; decide⟩
theorem odd_d0 : OddV (.dict []) := ⟨⟨⟨by decide, by decide, by decide, by decide⟩, .inr (by decide)⟩, by show 0 ≤ 1000; decide⟩
theorem OddV.cmd {d : PyData} (h : OddV d) : CmdV d := ⟨h.1.mono (by decide) (by decide), h.2⟩
theorem OddV.ov {d : PyData} (h : OddV d) : Ov d := ⟨h.1.mono (by decide) (by decide), h.2⟩
theorem CmdV.ov {d : PyData} (h : CmdV d) : Ov d := ⟨h.1.mono (by decide) (by decide), h.2⟩
/-- plain, or this odd one -/
def PO (k w : Nat) (o x : PyData) : Prop := x = o ∨ Pl k w x
theorem po_pl {o x : PyData} (h : Pl 0 70 x) : PO 1 70 o x := .inr (h.mono (by decide) (by decide))
theorem ov_tup1 {o : PyData} (ho : OddV o) {ds : List PyData} (h : ∀ d ∈ ds, PO 1 70 o d) {n : Nat} (hn : ds.length ≤ n) (h1 : n ≤ 1000) : Ov (.tuple ds) :=
  ⟨(Od.tup (W := 71000) ho.1 h (len_mul (m := 1000) (by omega) (by decide))).mono (by decide) (by decide), by show ds.length ≤ 1000; omega⟩
theorem cmd_tup1 {o : PyData} (ho : OddV o) {ds : List PyData} (h : ∀ d ∈ ds, PO 1 70 o d) (hn : ds.length ≤ 4) : CmdV (.tuple ds) :=
  ⟨(Od.tup (W := 300) ho.1 h (len_mul (m := 4) hn (by decide))).mono (by decide) (by decide), by show ds.length ≤ 1000; omega⟩
theorem ov_tup2 {o : PyData} (ho : CmdV o) {ds : List PyData} (h : ∀ d ∈ ds, PO 2 300 o d) {n : Nat} (hn : ds.length ≤ n) (h1 : n ≤ 1000) : Ov (.tuple ds) :=
  ⟨(Od.tup (W := 301000) ho.1 h (len_mul (m := 1000) (by omega) (by decide))).mono (by decide) (by decide), by show ds.length ≤ 1000; omega⟩
theorem ov_lst {k w n : Nat} {ds : List PyData} (h : ∀ d ∈ ds, Pl k w d) (hn : ds.length ≤ n) (h1 : n * (w + 1) ≤ 400000) (hk : k ≤ 5) : Ov (.list ds) :=
  ⟨(Od.lst (W := 400000) h (len_mul hn h1)).mono (by omega) (by decide), by show 0 ≤ 1000; decide⟩
theorem ov_pltup {k w n : Nat} {ds : List PyData} (h : ∀ d ∈ ds, Pl k w d) (hn : ds.length ≤ n) (h1 : n * (w + 1) ≤ 400000) (hk : k ≤ 5) (hn2 : n ≤ 1000) : Ov (.tuple ds) :=
  ⟨(Pl.tup (W := 400000) h (len_mul hn h1)).od.mono (by omega) (by decide), by show ds.length ≤ 1000; omega⟩
theorem cmd_pltup {ds : List PyData} (h : ∀ d ∈ ds, Pl 0 70 d) (hn : ds.length ≤ 4) : CmdV (.tuple ds) :=
  ⟨(Pl.tup (W := 300) h (len_mul hn (by decide))).od.mono (by decide) (by decide), by show ds.length ≤ 1000; omega⟩
theorem cmd_pllst {ds : List PyData} (h : ∀ d ∈ ds, Pl 0 70 d) (hn : ds.length ≤ 4) : CmdV (.list ds) :=
  ⟨(Od.lst (W := 300) h (len_mul hn (by decide))).mono (by decide) (by decide), by show 0 ≤ 1000; decide⟩
theorem pl_cmd {xs : List Int} (hx : ∀ k ∈ xs, 0 ≤ k ∧ k < 60) {c : PyData} (h : GoodC xs c) : Pl 1 300 c := by
  obtain ⟨w, i, j, rfl, hw, hi, hj, _⟩ := h
  refine Pl.tup (w := 70) (fun x hx' => ?_) (by show 3 * (70 + 1) ≤ 300; decide)
  simp only [List.mem_cons, List.mem_nil_iff, or_false] at hx'
  rcases hx' with rfl | rfl | rfl
  · exact pl_word hw
  · exact pl_int (hx i hi).1 (hx i hi).2
  · exact pl_int (hx j hj).1 (hx j hj).2
abbrev LinesS (K : PySem.W.Frag) : Sp := Bg K (fun ds => ∃ xs : List Int, ds = [.tuple (xs.map PyData.int)] ∧ 1 ≤ xs.length ∧ xs.length ≤ 60 ∧ ∀ k ∈ xs, 0 ≤ k ∧ k < 60) fun _ d => ∃ es, d = .list es ∧ es.length ≤ 200 ∧ ∀ e ∈ es, Ov e
abbrev CmdsS (K : PySem.W.Frag) : Sp := Bg K (fun ds => ∃ (xs : List Int) (cs : List PyData), ds = [.tuple cs] ∧ 1 ≤ cs.length ∧ cs.length ≤ 200 ∧ (∀ k ∈ xs, 0 ≤ k ∧ k < 60) ∧ ∀ c ∈ cs, GoodC xs c) fun _ d => ∃ es, d = .list es ∧ 1 ≤ es.length ∧ es.length ≤ 100 ∧ ∀ e ∈ es, CmdV e
abbrev ScrsS (K : PySem.W.Frag) : Sp := Bg K (fun ds => ∃ (xs : List Int) (cs : List PyData), ds = [.tuple cs] ∧ 1 ≤ cs.length ∧ cs.length ≤ 200 ∧ (∀ k ∈ xs, 0 ≤ k ∧ k < 60) ∧ ∀ c ∈ cs, GoodC xs c) fun _ d => ∃ es, d = .list es ∧ es.length ≤ 200 ∧ ∀ e ∈ es, Ov e
theorem size_ok {n : Nat} (h : n ≤ 100000) : n ≤ sizeLine := by
  have hsl : 100000 < sizeLine := by rw [sizeLine_eq]; decide
  omega
section
variable {K : PySem.W.Frag} {g : Addr} {σ : L2.St} {B H : Hp} {te : TE} {D : Ends} {tz : TS} {R : PyData → Prop}
theorem b_asg3 {i j l : Nat} {S : PyData → PyData → PyData → Prop} (h : Eb K g te σ B H R) (e : Ex B H) (b : Bag g B H) (hR : ∀ d, R d → ∃ x y z, d = .tuple [x, y, z] ∧ S x y z)
    (q : ∀ a b c x y z B' H', S a b c → Le [g] B H B' H' → Bag g B' H' → Dq K B' x a → Dq K B' y b → Dq K B' z c → tz D (((σ.set i (some x)).set j (some y)).set l (some z)) H') :
    tSeq (tAsg te (gTup K 3 (gCons (gName i) (gCons (gName j) (gCons (gName l) gNil))))) tz D σ H := h B H (Le.refl e) b _ fun d v B' H' r l b' hv => by
  obtain ⟨x, y, z, rfl, hs⟩ := hR d r
  exact gt3 l.h hv fun a b c ha hb hc => q x y z a b c B' H' hs l b' ha hb hc
/-- a list's item at a number below its length -/
theorem eb_at {ta tb : TE} {ds : List PyData} {n : Int} (ha : ∀ B1 H1, Le [g] B H B1 H1 → Ev K ta σ B1 H1 (.list ds)) (hb : Eb K g tb σ B H (RI fun r => 0 ≤ r ∧ r < n)) (hn : n = ds.length) : Eb K g (tOp (rIx K) ta tb) σ B H (· ∈ ds) :=
  eb_op (eb_of ha) hb fun x y hx hy => by
    subst hx
    obtain ⟨r, rfl, r0, r1⟩ := hy
    have hr : r.toNat < ds.length := by omega
    have z := atI_nat (List.getElem?_eq_getElem hr)
    rw [show ((r.toNat : Nat) : Int) = r by omega] at z
    exact ⟨_, rv_ixL z, List.getElem_mem hr⟩
theorem eb_atT {ta tb : TE} {ds : List PyData} {n : Int} (ha : ∀ B1 H1, Le [g] B H B1 H1 → Ev K ta σ B1 H1 (.tuple ds)) (hb : Eb K g tb σ B H (RI fun r => 0 ≤ r ∧ r < n)) (hn : n = ds.length) : Eb K g (tOp (rIx K) ta tb) σ B H (· ∈ ds) :=
  eb_op (eb_of ha) hb fun x y hx hy => by
    subst hx
    obtain ⟨r, rfl, r0, r1⟩ := hy
    have hr : r.toNat < ds.length := by omega
    have z := atI_nat (List.getElem?_eq_getElem hr)
    rw [show ((r.toNat : Nat) : Int) = r by omega] at z
    exact ⟨_, rv_ixT z, List.getElem_mem hr⟩
end
end MA

set_option maxRecDepth 100000
set_option maxHeartbeats 2000000
namespace MA
open PySem PySem.Spec PyProof.Rows L2
/-! ## the law's loops -/
/-- what was made within is ours: no more known for good -/
def dropB (B : Hp) (a : Addr) : Hp := fun x => if x = a then none else B x
theorem Le.drop {M : List Addr} {B H B' H' : Hp} {a : Addr} (l : Le M B H B' H') (e : Ex B H) (ha : H a = none) : Le M B H (dropB B' a) H' ∧ dropB B' a a = none := by
  have ba : B a = none := by
    cases z : B a with
    | none => rfl
    | some o => rw [e a o z] at ha; cases ha
  refine ⟨⟨fun x o h => ?_, fun x o h => ?_, l.k, l.t, fun x h1 h2 => ?_⟩, if_pos rfl⟩
  · have hne : x ≠ a := fun z => by rw [z, ba] at h; cases h
    show (if x = a then none else B' x) = some o
    rw [if_neg hne]
    exact l.b x o h
  · unfold dropB at h
    split at h
    · cases h
    · exact l.h x o h
  · unfold dropB at h2
    split at h2
    · exact absurd rfl h2
    · exact l.n x h1 h2
section
variable {K : PySem.W.Frag} {g : Addr} {σ : L2.St} {B H : Hp} {tl te : TE} {D : Ends} {tb tz : TS} {gg : TG} {R : PyData → Prop}
theorem s_forL {xs : List PyData} (hl : Ev K tl σ B H (.list xs)) (e : Ex B H) (I : Nat → L2.St → Hp → Prop) (h0 : ∀ B1 H1, Le [] B H B1 H1 → I 0 σ B1)
    (hs : ∀ (i : Nat) (d : PyData) (v : V) σ' B' H' N, Le [] B H B' H' → xs[i]? = some d → Dq K B' v d → I i σ' B' → (∀ σ3 B3 H3, Le [] B' H' B3 H3 → I (i + 1) σ3 B3 → N σ3 H3) →
      gg v σ' H' fun σ2 H2 => tb { D with nx := N, ct := N, bk := D.nx } σ2 H2)
    (hd : ∀ σ' B' H', Le [] B H B' H' → I xs.length σ' B' → D.nx σ' H') : tFor (iList K tl) gg tb D σ H := by
  refine hl B H (Le.refl e) _ fun u B1 H1 l1 hu => ?_
  cases hu with
  | lst hv hq =>
    rename_i a ys
    refine ⟨a, rfl, ⟨ys, .inl (.inl (l1.h _ _ hv))⟩, for_list (xs := ys) (fun i σ' H' => ∃ B', Le [] B1 H1 B' H' ∧ I i σ' B') ⟨B1, Le.refl l1.h, h0 B1 H1 l1⟩ (fun i σ' H' _ p => ?_) (fun i x σ' H' hi p => ?_) (fun σ' H' p => ?_)⟩
    · obtain ⟨B', l, _⟩ := p
      exact .inl (.inl (l.h _ _ (l.b _ _ hv)))
    · obtain ⟨B', l, hI⟩ := p
      obtain ⟨d, hd, hx⟩ := hq.get hi
      exact hs i d x σ' B' H' _ (l1.trans l) hd (hx.mono l.b) hI fun σ3 B3 H3 l3 hI3 => ⟨B3, l.trans l3, hI3⟩
    · obtain ⟨B', l, hI⟩ := p
      rw [hq.length] at hI
      exact hd σ' B' H' (l1.trans l) hI
theorem q_forL {xs : List PyData} (hl : Ev K tl σ B H (.list xs)) (e : Ex B H) (I : Nat → L2.St → Hp → Prop) (h0 : ∀ B1 H1, Le [] B H B1 H1 → I 0 σ B1)
    (hs : ∀ (i : Nat) (d : PyData) (v : V) σ' B' H' N, Le [] B H B' H' → xs[i]? = some d → Dq K B' v d → I i σ' B' → (∀ σ3 B3 H3, Le [] B' H' B3 H3 → I (i + 1) σ3 B3 → N σ3 H3) →
      gg v σ' H' fun σ2 H2 => tb { D with nx := N, ct := N, bk := tz D } σ2 H2)
    (hd : ∀ σ' B' H', Le [] B H B' H' → I xs.length σ' B' → tz D σ' H') : tSeq (tFor (iList K tl) gg tb) tz D σ H := s_forL (D := { D with nx := tz D }) hl e I h0 hs hd
/-- over what the bag gave, the body pure -/
theorem b_forL (hl : Eb K g tl σ B H (fun d => ∃ es, d = .list es ∧ ∀ e ∈ es, R e)) (e : Ex B H) (b : Bag g B H) (I : Nat → L2.St → Hp → Prop) (h0 : ∀ B1 H1, Le [g] B H B1 H1 → I 0 σ B1)
    (hs : ∀ (i : Nat) (d : PyData) (v : V) σ' B' H' N, Le [g] B H B' H' → R d → Dq K B' v d → I i σ' B' → (∀ σ3 B3 H3, Le [] B' H' B3 H3 → I (i + 1) σ3 B3 → N σ3 H3) →
      gg v σ' H' fun σ2 H2 => tb { D with nx := N, ct := N, bk := tz D } σ2 H2)
    (hd : ∀ i σ' B' H', Le [g] B H B' H' → I i σ' B' → tz D σ' H') : tSeq (tFor (iList K tl) gg tb) tz D σ H := by
  refine hl B H (Le.refl e) b _ fun d v B1 H1 r l1 b1 hv => ?_
  obtain ⟨es, rfl, hr⟩ := r
  cases hv with
  | lst hv hq =>
    rename_i a ys
    refine ⟨a, rfl, ⟨ys, .inl (.inl (l1.h _ _ hv))⟩, for_list (xs := ys) (fun i σ' H' => ∃ B', Le [] B1 H1 B' H' ∧ I i σ' B') ⟨B1, Le.refl l1.h, h0 B1 H1 l1⟩ (fun i σ' H' _ p => ?_) (fun i x σ' H' hi p => ?_) (fun σ' H' p => ?_)⟩
    · obtain ⟨B', l, _⟩ := p
      exact .inl (.inl (l.h _ _ (l.b _ _ hv)))
    · obtain ⟨B', l, hI⟩ := p
      obtain ⟨d, hd, hx⟩ := hq.get hi
      exact hs i d x σ' B' H' _ (l1.trans l.any) (hr d (List.mem_of_getElem? hd)) (hx.mono l.b) hI fun σ3 B3 H3 l3 hI3 => ⟨B3, l.trans l3, hI3⟩
    · obtain ⟨B', l, hI⟩ := p
      exact hd _ σ' B' H' (l1.trans l.any) hI
/-- over range(n), n written; the body keeps what is known -/
theorem s_forR {n : Nat} (hn : n ≤ 1000) (e : Ex B H) (I : Nat → L2.St → Hp → Prop) (h0 : I 0 σ B)
    (hs : ∀ (i : Nat) σ' B' H' N, Le [] B H B' H' → I i σ' B' → (∀ σ3 B3 H3, Le [] B' H' B3 H3 → I (i + 1) σ3 B3 → N σ3 H3) →
      gg (.int (0 + (i : Nat))) σ' H' fun σ2 H2 => tb { D with nx := N, ct := N, bk := D.nx } σ2 H2)
    (hd : ∀ σ' B' H', Le [] B H B' H' → I n σ' B' → D.nx σ' H') : tFor (iRng1 (tCons (tC (.int (n : Nat))) tNil)) gg tb D σ H := by
  refine ⟨(n : Nat), rfl, by omega, by omega, ?_⟩
  rw [show ((n : Nat) : Int).toNat = n by omega]
  refine for_range (lo := 0) (n := n) (fun i σ' H' => ∃ B', Le [] B H B' H' ∧ I i σ' B') ⟨B, Le.refl e, h0⟩ (fun i σ' H' _ p => ?_) (fun σ' H' p => ?_)
  · obtain ⟨B', l, hI⟩ := p
    exact hs i σ' B' H' _ l hI fun σ3 B3 H3 l3 hI3 => ⟨B3, l.trans l3, hI3⟩
  · obtain ⟨B', l, hI⟩ := p
    exact hd σ' B' H' l hI
theorem b_asg2 {i j : Nat} {S : PyData → PyData → Prop} (h : Eb K g te σ B H R) (e : Ex B H) (b : Bag g B H) (hR : ∀ d, R d → ∃ x y, d = .tuple [x, y] ∧ S x y)
    (q : ∀ a b x y B' H', S a b → Le [g] B H B' H' → Bag g B' H' → Dq K B' x a → Dq K B' y b → tz D ((σ.set i (some x)).set j (some y)) H') :
    tSeq (tAsg te (gTup K 2 (gCons (gName i) (gCons (gName j) gNil)))) tz D σ H := h B H (Le.refl e) b _ fun d v B' H' r l b' hv => by
  obtain ⟨x, y, rfl, hs⟩ := hR d r
  exact gt2 l.h hv fun a b ha hb => q x y a b B' H' hs l b' ha hb
/-- the law's script, cut, as data -/
theorem ev_slS {i : Nat} {a : Addr} {ns : List Int} {k : Int} (h : σ[i]? = some (some (.ref a))) (hs : SqL K H a (ns.map V.int)) (hk : 0 ≤ k) : Ev K (tSl (rSlAny K) (tVar i) tNoPart (tPart (tC (.int k)))) σ B H (.list ((ns.take k.toNat).map PyData.int)) := fun B1 H1 l Q q => by
  refine ⟨.ref a, h, k, rfl, .inr (.inl ?_)⟩
  have hs1 : SqL K H1 a (ns.map V.int) := Evl.ex_l l.ex hs
  have e1 : cutV (ns.map V.int) none (some k) = (ns.take k.toNat).map V.int := by
    have := cut_to (ns.map V.int) k.toNat
    rw [show ((k.toNat : Nat) : Int) = k by omega] at this
    rw [show cutV (ns.map V.int) none (some k) = cutG (ns.map V.int) none (some k) from rfl, this, List.map_take]
  refine ⟨a, _, rfl, hs1, fun p hp => ?_⟩
  rw [e1]
  exact q (.ref p) _ _ (Le.new l.h hp) (.lst upd_same (dqInts _))
theorem ev_repr {d : PyData} (h : Ev K te σ B H d) (ho : Ov d) : Ev K (tCB (rRepr K) (tCons te tNil)) σ B H (.str d.shown) := ev_cb (ea_cons h ea_nil) fun B H vs e hvs Q q => by
  obtain ⟨v, rfl, hv⟩ := dq1 hvs
  obtain ⟨h1, h2, h3, h4⟩ := ho.repr
  exact ⟨v, d, rfl, hv.mono e, h1, h2, h3, h4, q _ B H (Le.refl e) (.str _)⟩
theorem et_same {s : PySem.Str} {ta tb : TE} (h1 : Ev K ta σ B H (.str s)) (h2 : Ev K tb σ B H (.str s)) : EvT (tTest (tOp (rNeA K) ta tb)) σ B H false := by
  have c := et_test (ev_op h1 h2 rv_neS)
  rw [decide_eq_true rfl] at c
  exact c
theorem ov_bools (x y z : Bool) : Ov (.list [.bool x, .bool y, .bool z]) := ov_lst (k := 0) (w := 70) (n := 3) (fun d hd => by
  simp only [List.mem_cons, List.mem_nil_iff, or_false] at hd
  rcases hd with rfl | rfl | rfl <;> exact pl_of (by revert x y z; decide)) (by show 3 ≤ 3; decide) (by decide) (by decide)
end
end MA

set_option maxRecDepth 100000
set_option maxHeartbeats 2000000
namespace MA
open PySem PySem.Spec PyProof.Rows L2
/-! ## what commands do to a row: the row by the command's own map -/
def cmdMap (b : Bool) (i j r : Int) : List Int := if r = i then [] else if r = j then (if b then [j, i] else [i, j]) else [r]
/-- take i out, put it behind or before j -/
def stepI (b : Bool) (i j : Int) (R : List Int) : List Int :=
  (R.erase i).take ((R.erase i).idxOf j + (if b then 1 else 0)) ++ [i] ++ (R.erase i).drop ((R.erase i).idxOf j + (if b then 1 else 0))
theorem flatMap_erase {m : Int → List Int} {i : Int} (h : m i = []) : ∀ R : List Int, (R.erase i).flatMap m = R.flatMap m
  | [] => rfl
  | a :: R => by
    rw [List.erase_cons]
    by_cases z : a = i
    · subst z
      rw [if_pos (by simp), List.flatMap_cons, h, List.nil_append]
    · rw [if_neg (by simp [z]), List.flatMap_cons, List.flatMap_cons, flatMap_erase h R]
theorem flatMap_self {m : Int → List Int} : ∀ {R : List Int}, (∀ a ∈ R, m a = [a]) → R.flatMap m = R
  | [], _ => rfl
  | a :: R, h => by
    rw [List.flatMap_cons, h a (List.mem_cons_self ..), flatMap_self fun x hx => h x (List.mem_cons_of_mem _ hx)]
    rfl
theorem split_at {j : Int} : ∀ {R : List Int}, R.count j = 1 → ∃ A B, R = A ++ j :: B ∧ j ∉ A ∧ j ∉ B ∧ R.idxOf j = A.length
  | [], h => by simp at h
  | a :: R, h => by
    by_cases z : a = j
    · subst z
      refine ⟨[], R, rfl, by simp, fun m => ?_, by simp⟩
      have := List.one_le_count_iff.mpr m
      rw [List.count_cons_self] at h
      omega
    · rw [List.count_cons_of_ne z] at h
      obtain ⟨A, B, e, h1, h2, h3⟩ := split_at h
      refine ⟨a :: A, B, by rw [e]; rfl, fun m => ?_, h2, ?_⟩
      · rcases List.mem_cons.mp m with w | w
        · exact z w.symm
        · exact h1 w
      · rw [List.idxOf_cons, show (a == j) = false by simp [z], h3]
        rfl
theorem step_cut {b : Bool} {i j : Int} {R : List Int} (hi : R.count i = 1) (hj : R.count j = 1) (hne : i ≠ j) :
    ∃ A B, R.erase i = A ++ j :: B ∧ j ∉ A ∧ j ∉ B ∧ i ∉ A ∧ i ∉ B ∧ (R.erase i).idxOf j = A.length ∧ stepI b i j R = A ++ (if b then [j, i] else [i, j]) ++ B := by
  have h1 : (R.erase i).count j = 1 := by rw [List.count_erase_of_ne (Ne.symm hne), hj]
  have h2 : (R.erase i).count i = 0 := by rw [List.count_erase_self, hi]
  obtain ⟨A, B, e, a1, a2, a3⟩ := split_at h1
  have hni : i ∉ A ++ j :: B := by rw [← e]; exact List.count_eq_zero.mp h2
  refine ⟨A, B, e, a1, a2, fun m => hni (List.mem_append_left _ m), fun m => hni (List.mem_append_right _ (List.mem_cons_of_mem _ m)), a3, ?_⟩
  unfold stepI
  rw [a3, e]
  cases b with
  | true =>
    have t1 : (A ++ j :: B).take (A.length + 1) = A ++ [j] := by rw [List.take_append, List.take_of_length_le (by omega), Nat.add_sub_cancel_left]; rfl
    have t2 : (A ++ j :: B).drop (A.length + 1) = B := by rw [List.drop_append, List.drop_of_length_le (by omega), Nat.add_sub_cancel_left]; rfl
    simp only [if_true, t1, t2, List.append_assoc, List.cons_append, List.nil_append]
  | false =>
    have t1 : (A ++ j :: B).take (A.length + 0) = A := by rw [Nat.add_zero, List.take_left']; rfl
    have t2 : (A ++ j :: B).drop (A.length + 0) = j :: B := by rw [Nat.add_zero, List.drop_left']; rfl
    simp only [Bool.false_eq_true, if_false, t1, t2, List.append_assoc, List.cons_append, List.nil_append]
theorem step_map {b : Bool} {i j : Int} {R : List Int} (hi : R.count i = 1) (hj : R.count j = 1) (hne : i ≠ j) : stepI b i j R = R.flatMap (cmdMap b i j) := by
  obtain ⟨A, B, e, a1, a2, a3, a4, _, h⟩ := step_cut (b := b) hi hj hne
  have m0 : cmdMap b i j i = [] := by unfold cmdMap; rw [if_pos rfl]
  have mj : cmdMap b i j j = if b then [j, i] else [i, j] := by unfold cmdMap; rw [if_neg (Ne.symm hne), if_pos rfl]
  have self : ∀ {C : List Int}, i ∉ C → j ∉ C → C.flatMap (cmdMap b i j) = C := fun h1 h2 => flatMap_self fun a ha => by
    unfold cmdMap
    rw [if_neg (fun z : a = i => h1 (z ▸ ha)), if_neg (fun z : a = j => h2 (z ▸ ha))]
  rw [h, ← flatMap_erase m0 R, e, List.flatMap_append, List.flatMap_cons, self a3 a1, self a4 a2, mj, List.append_assoc]
theorem step_perm {b : Bool} {i j : Int} {R : List Int} (hi : R.count i = 1) (hj : R.count j = 1) (hne : i ≠ j) : (stepI b i j R).Perm R := by
  obtain ⟨A, B, e, _, _, _, _, _, h⟩ := step_cut (b := b) hi hj hne
  have m : i ∈ R := List.one_le_count_iff.mp (by omega)
  have p := List.perm_cons_erase m
  rw [e] at p
  rw [h]
  refine .trans ?_ p.symm
  cases b with
  | true =>
    show (A ++ [j, i] ++ B).Perm (i :: (A ++ j :: B))
    have q : (A ++ [j, i] ++ B).Perm ((A ++ [j]) ++ i :: B) := by rw [List.append_assoc, List.append_assoc]; exact .refl _
    refine q.trans (List.perm_middle.trans ?_)
    rw [List.append_assoc]
    exact .refl _
  | false =>
    show (A ++ [i, j] ++ B).Perm (i :: (A ++ j :: B))
    rw [List.append_assoc]
    exact List.perm_middle
/-! a script -/
def cmdB : PyData → Bool
  | .tuple (.str x :: _) => decide (x = "behind")
  | _ => false
def stepD (R : List Int) (c : PyData) : List Int := match itemsD' c with
  | some (i, j) => stepI (cmdB c) i j R
  | none => R
where itemsD' : PyData → Option (Int × Int)
  | .tuple [_, .int i, .int j] => some (i, j)
  | _ => none
def mapD (c : PyData) (r : Int) : List Int := match stepD.itemsD' c with
  | some (i, j) => cmdMap (cmdB c) i j r
  | none => [r]
def playL (S : List PyData) (R : List Int) : List Int := S.foldl stepD R
def scrMap : List PyData → Int → List Int
  | [], r => [r]
  | c :: S, r => (mapD c r).flatMap (scrMap S)
/-- a row in which each item of the commands stands once -/
def Fit (xs R : List Int) : Prop := ∀ k ∈ xs, R.count k = 1
theorem step_of {xs R : List Int} {c : PyData} (hc : GoodC xs c) (hf : Fit xs R) : stepD R c = R.flatMap (mapD c) ∧ (stepD R c).Perm R := by
  obtain ⟨w, i, j, rfl, _, hi, hj, hne⟩ := hc
  exact ⟨step_map (hf i hi) (hf j hj) hne, step_perm (hf i hi) (hf j hj) hne⟩
theorem play_of {xs : List Int} : ∀ (S : List PyData) {R : List Int}, (∀ c ∈ S, GoodC xs c) → Fit xs R → playL S R = R.flatMap (scrMap S) ∧ (playL S R).Perm R
  | [], R, _, _ => ⟨(flatMap_self fun a _ => rfl).symm, .refl _⟩
  | c :: S, R, h, hf => by
    obtain ⟨h1, h2⟩ := step_of (h c (List.mem_cons_self ..)) hf
    have hf2 : Fit xs (stepD R c) := fun k hk => by rw [h2.count_eq, hf k hk]
    obtain ⟨h3, h4⟩ := play_of S (fun c hc => h c (List.mem_cons_of_mem _ hc)) hf2
    refine ⟨?_, h4.trans h2⟩
    show playL S (stepD R c) = _
    rw [h3, h1, List.flatMap_assoc]
    rfl
theorem scrMap_other {xs : List Int} {r : Int} (hr : r ∉ xs) : ∀ {S : List PyData}, (∀ c ∈ S, GoodC xs c) → scrMap S r = [r]
  | [], _ => rfl
  | c :: S, h => by
    obtain ⟨w, i, j, rfl, _, hi, hj, _⟩ := h c (List.mem_cons_self ..)
    have e : mapD (.tuple [.str w, .int i, .int j]) r = [r] := by
      show cmdMap _ i j r = [r]
      unfold cmdMap
      rw [if_neg (fun z : r = i => hr (z ▸ hi)), if_neg (fun z : r = j => hr (z ▸ hj))]
    show (mapD _ r).flatMap (scrMap S) = [r]
    rw [e, List.flatMap_cons, scrMap_other hr fun c hc => h c (List.mem_cons_of_mem _ hc)]
    rfl
theorem scrMap_append : ∀ (S T : List PyData) (r : Int), scrMap (S ++ T) r = (scrMap S r).flatMap (scrMap T)
  | [], T, r => by show scrMap T r = [r].flatMap (scrMap T); rw [List.flatMap_cons]; exact (List.append_nil _).symm
  | c :: S, T, r => by
    show (mapD c r).flatMap (scrMap (S ++ T)) = ((mapD c r).flatMap (scrMap S)).flatMap (scrMap T)
    rw [List.flatMap_assoc]
    congr 1
    funext x
    exact scrMap_append S T x
theorem scrMap_mem {xs : List Int} {r k : Int} : ∀ {S : List PyData}, (∀ c ∈ S, GoodC xs c) → k ∈ scrMap S r → k = r ∨ k ∈ xs
  | [], _, h => .inl (List.mem_singleton.mp h)
  | c :: S, hS, h => by
    obtain ⟨x, hx, hk⟩ := List.mem_flatMap.mp h
    rcases scrMap_mem (fun c hc => hS c (List.mem_cons_of_mem _ hc)) hk with rfl | h
    · obtain ⟨w, i, j, rfl, _, hi, hj, _⟩ := hS c (List.mem_cons_self ..)
      have hx' : k ∈ cmdMap (cmdB (.tuple [.str w, .int i, .int j])) i j r := hx
      unfold cmdMap at hx'
      split at hx'
      · cases hx'
      · split at hx'
        · split at hx'
          · simp only [List.mem_cons, List.mem_nil_iff, or_false] at hx'
            rcases hx' with rfl | rfl
            · exact .inr hj
            · exact .inr hi
          · simp only [List.mem_cons, List.mem_nil_iff, or_false] at hx'
            rcases hx' with rfl | rfl
            · exact .inr hi
            · exact .inr hj
        · exact .inl (List.mem_singleton.mp hx')
    · exact .inr h
/-! the fences -/
def fencedL (ns : List Int) : List Int := ns.flatMap fun n => [-1, n]
theorem fenced_map {m : Int → List Int} (h : m (-1) = [-1]) (ns : List Int) : (fencedL ns).flatMap m = ns.flatMap fun n => -1 :: m n := by
  unfold fencedL
  rw [List.flatMap_assoc]
  congr 1
  funext n
  show m (-1) ++ (m n ++ []) = _
  rw [h, List.append_nil]
  rfl
/-- the parts behind the fences: a fence opens one, the rest goes to the last -/
def partStep (parts : List (List Int)) (k : Int) : List (List Int) := if k = -1 then parts ++ [[]] else parts.dropLast ++ [(parts.getLastD []) ++ [k]]
theorem part_fill : ∀ (m : List Int) (P : List (List Int)) (l : List Int), -1 ∉ m → m.foldl partStep (P ++ [l]) = P ++ [l ++ m]
  | [], P, l, _ => by rw [List.append_nil]; rfl
  | k :: m, P, l, h => by
    have hk : k ≠ -1 := fun z => h (z ▸ List.mem_cons_self ..)
    have e : partStep (P ++ [l]) k = P ++ [l ++ [k]] := by
      unfold partStep
      rw [if_neg hk, List.dropLast_concat]
      congr 2
      rw [List.getLastD_eq_getLast?, List.getLast?_concat]
      rfl
    rw [List.foldl_cons, e, part_fill m P _ fun z => h (List.mem_cons_of_mem _ z), List.append_assoc]
    rfl
theorem parts_map {m : Int → List Int} : ∀ (ns : List Int) (P : List (List Int)), (∀ n ∈ ns, -1 ∉ m n) → (ns.flatMap fun n => -1 :: m n).foldl partStep P = P ++ ns.map m
  | [], P, _ => by simp
  | n :: ns, P, h => by
    rw [List.flatMap_cons, List.foldl_append, List.foldl_cons]
    have e : partStep P (-1) = P ++ [[]] := by unfold partStep; rw [if_pos rfl]
    rw [e, part_fill _ _ _ (h n (List.mem_cons_self ..)), parts_map ns _ fun x hx => h x (List.mem_cons_of_mem _ hx), List.append_assoc]
    rfl
end MA

set_option maxRecDepth 100000
set_option maxHeartbeats 2000000
namespace MA
open PySem PySem.Spec PyProof.Rows L2
/-! ## rows of ints that are ours -/
theorem idx_first : ∀ {R : List Int} {k : Int}, k ∈ R → R[R.idxOf k]? = some k ∧ (∀ m : Nat, m < R.idxOf k → R[m]? ≠ some k) ∧ R.eraseIdx (R.idxOf k) = R.erase k
  | [], _, h => by simp at h
  | a :: R, k, h => by
    by_cases z : a = k
    · subst z
      have e : (a :: R).idxOf a = 0 := by simp
      rw [e]
      exact ⟨rfl, fun m hm => absurd hm (by omega), by simp⟩
    · have hk : k ∈ R := by
        rcases List.mem_cons.mp h with e | e
        · exact absurd e.symm z
        · exact e
      obtain ⟨h1, h2, h3⟩ := idx_first hk
      have e : (a :: R).idxOf k = R.idxOf k + 1 := by rw [List.idxOf_cons, show (a == k) = false by simp [z]]; rfl
      rw [e]
      refine ⟨by simpa using h1, fun m hm => ?_, ?_⟩
      · cases m with
        | zero => simpa using z
        | succ m => simpa using h2 m (by omega)
      · rw [List.eraseIdx_cons_succ, h3, List.erase_cons, if_neg (by simp [z])]
section
variable {K : PySem.W.Frag} {p : Addr} {H : Hp} {R : List Int} {k : Int} {Q : VK}
theorem rem_own (hp : H p = some (.lst (R.map V.int))) (hk : k ∈ R) (q : Q .non (upd H p (.lst ((R.erase k).map V.int)))) : rRemI (.ref p) [.int k] H Q := by
  obtain ⟨h1, h2, h3⟩ := idx_first hk
  exact ⟨p, R, k, R.idxOf k, rfl, rfl, hp, h1, h2, by rw [h3]; exact q⟩
theorem eqV_int (a b : Int) : eqV (.int a) (.int b) = decide (a = b) := by
  have := inV_ints a [b]
  simp only [List.map_cons, List.map_nil, List.mem_singleton] at this
  by_cases z : a = b
  · subst z
    first | (simp [eqV]) | rfl
  · first | (simp [eqV, z]) | rfl
theorem idx_own (hp : H p = some (.lst (R.map V.int))) (hk : k ∈ R) (q : Q (.int (R.idxOf k : Nat)) H) : rIndex K (.ref p) [.int k] H Q := by
  obtain ⟨h1, h2, h3⟩ := idx_first hk
  refine ⟨p, R.map V.int, .int k, R.idxOf k, .int k, rfl, rfl, .inl (.inl hp), rfl, flat_ints R, by rw [List.getElem?_map, h1]; rfl, by rw [eqV_int]; exact decide_eq_true rfl, fun m z hm hz => ?_, q⟩
  rw [List.getElem?_map] at hz
  cases e : R[m]? with
  | none => rw [e] at hz; cases hz
  | some a =>
    rw [e] at hz
    cases hz
    rw [eqV_int]
    exact decide_eq_false fun w => h2 m hm (by rw [e, w])
end
section
variable {K : PySem.W.Frag} {p : Addr} {σ : L2.St} {B H : Hp} {te : TE} {d : PyData} {D : Ends} {tz : TS}
theorem ev_callU {Pre : List PyData → Prop} {Post : List PyData → PyData → Prop} {E : XK} {ts : TA} {ds : List PyData} (h : EvA K ts σ B H ds) (hp : Pre ds) (hd : ∀ x, Post ds x → x = d) : Ev K (tCall (Pu K Pre Post) [] E ts) σ B H d := fun B1 H1 l Q q =>
  h B1 H1 l _ fun vs B2 H2 l2 hs => ⟨B2, ds, l2.h, by rw [List.append_nil]; exact hs, hp, fun x hx v B3 H3 l3 hv => by rw [hd x hx] at hv; exact q v B3 H3 (l2.trans l3) hv⟩
/-- p.append(..), p ours, nothing drawn -/
theorem s_append {i : Nat} {vs : List V} (hi : σ[i]? = some (some (.ref p))) (h : Ev K te σ B H d) (e : Ex B H) (hp : B p = none) (hpl : H p = some (.lst vs)) (hz : vs.length < 100000)
    (q : ∀ v B' H', Le [p] B H B' H' → B' p = none → H' p = some (.lst (vs ++ [v])) → Dq K B' v d → D.nx σ H') : tDrop (tBM K "list" rAppend (tVar i) (tCons te tNil)) D σ H := by
  refine ⟨.ref p, hi, .inl ⟨rfl, vs, .inl (.inl hpl)⟩, ?_⟩
  refine h B H (Le.refl e) _ fun v B' H' l hv => ?_
  have hp' := l.own hpl hp
  have hpl' := l.k p _ (by simp) hpl
  have hsl : 100000 < sizeLine := by rw [sizeLine_eq]; decide
  refine ⟨p, vs, v, rfl, rfl, hpl', by omega, ?_⟩
  exact q v B' _ (l.any.trans (Le.put (M := [p]) l.h hp' (by simp))) hp' upd_same hv
end
section
variable {K : PySem.W.Frag} {p : Addr} {σ : L2.St} {H : Hp} {D : Ends} {tz : TS} {R : List Int} {k : Int}
theorem q_rem {i j : Nat} (hi : σ[i]? = some (some (.ref p))) (hj : σ[j]? = some (some (.int k))) (hp : H p = some (.lst (R.map V.int))) (hk : k ∈ R) (q : tz D σ (upd H p (.lst ((R.erase k).map V.int)))) : tSeq (tDrop (tBM K "list" rRemI (tVar i) (tCons (tVar j) tNil))) tz D σ H := by
  refine ⟨.ref p, hi, .inl ⟨rfl, _, .inl (.inl hp)⟩, .int k, hj, ?_⟩
  show rRemI (.ref p) [.int k] H fun _ H1 => tz D σ H1
  exact rem_own hp hk q
theorem q_idx {i j l : Nat} (hi : σ[i]? = some (some (.ref p))) (hj : σ[j]? = some (some (.int k))) (hp : H p = some (.lst (R.map V.int))) (hk : k ∈ R) (q : tz D (σ.set l (some (.int (R.idxOf k : Nat)))) H) : tSeq (tAsg (tBM K "list" (rIndex K) (tVar i) (tCons (tVar j) tNil)) (gName l)) tz D σ H := by
  refine ⟨.ref p, hi, .inl ⟨rfl, _, .inl (.inl hp)⟩, .int k, hj, ?_⟩
  show rIndex K (.ref p) [.int k] H fun v H1 => tz D (σ.set l (some v)) H1
  exact idx_own hp hk q
end
theorem none_of {B H : Hp} (e : Ex B H) {p : Addr} (hp : H p = none) : B p = none := by
  cases z : B p with
  | none => rfl
  | some o => rw [e p o z] at hp; cases hp
theorem q_append {K : PySem.W.Frag} {p : Addr} {σ : L2.St} {B H : Hp} {te : TE} {d : PyData} {D : Ends} {tz : TS} {i : Nat} {vs : List V} (hi : σ[i]? = some (some (.ref p))) (h : Ev K te σ B H d) (e : Ex B H) (hp : B p = none) (hpl : H p = some (.lst vs)) (hz : vs.length < 100000)
    (q : ∀ v B' H', Le [p] B H B' H' → B' p = none → H' p = some (.lst (vs ++ [v])) → Dq K B' v d → tz D σ H') : tSeq (tDrop (tBM K "list" rAppend (tVar i) (tCons te tNil))) tz D σ H := s_append (D := { D with nx := tz D }) hi h e hp hpl hz q
section
variable {K : PySem.W.Frag} {p : Addr} {σ : L2.St} {B H : Hp} {te : TE} {t : TT} {D : Ends} {tz : TS} {i : Nat} {ns : List Int} {k : Bool} {n : Int}
/-- if ..: p.append(n) -/
theorem s_ifApp (ht : EvT t σ B H k) (e : Ex B H) (hv : ∀ B' H', Le [] B H B' H' → Ev K te σ B' H' (.int n)) (hi : σ[i]? = some (some (.ref p))) (hp : B p = none) (hpl : H p = some (.lst (ns.map V.int))) (hz : ns.length < 100000)
    (q : ∀ B' H', Le [p] B H B' H' → B' p = none → H' p = some (.lst ((ns ++ (if k then [n] else [])).map V.int)) → D.nx σ H') : tIfS t (tDrop (tBM K "list" rAppend (tVar i) (tCons te tNil))) tNext D σ H := by
  refine s_if ht e (fun hk B' H' l => ?_) fun hk B' H' l => ?_
  · refine s_append (K := K) (p := p) hi (hv B' H' l) l.h (l.own hpl hp) (l.k p _ (by simp) hpl) (by rw [List.length_map]; exact hz) fun v B2 H2 l2 b2 h2 hv => ?_
    cases hv
    refine q B2 H2 (l.any.trans l2) b2 ?_
    rw [h2, hk, if_pos rfl, List.map_append]
    rfl
  · refine q B' H' l.any (l.own hpl hp) ?_
    rw [hk, if_neg (by decide), List.append_nil]
    exact l.k p _ (by simp) hpl
theorem q_ifApp (ht : EvT t σ B H k) (e : Ex B H) (hv : ∀ B' H', Le [] B H B' H' → Ev K te σ B' H' (.int n)) (hi : σ[i]? = some (some (.ref p))) (hp : B p = none) (hpl : H p = some (.lst (ns.map V.int))) (hz : ns.length < 100000)
    (q : ∀ B' H', Le [p] B H B' H' → B' p = none → H' p = some (.lst ((ns ++ (if k then [n] else [])).map V.int)) → tz D σ H') : tSeq (tIfS t (tDrop (tBM K "list" rAppend (tVar i) (tCons te tNil))) tNext) tz D σ H := s_ifApp (D := { D with nx := tz D }) ht e hv hi hp hpl hz q
end
/-! the program's players -/
abbrev PlayedS (K : PySem.W.Frag) : Sp := Pu K (fun ds => ∃ (xs R : List Int) (cs : List PyData), (ds = [.list (R.map PyData.int), .tuple cs] ∨ ds = [.tuple (R.map PyData.int), .tuple cs]) ∧ (∀ c ∈ cs, GoodC xs c) ∧ Fit xs R ∧ R.length ≤ 1000)
  fun ds d => ∀ (R : List Int) (cs : List PyData), (ds = [.list (R.map PyData.int), .tuple cs] ∨ ds = [.tuple (R.map PyData.int), .tuple cs]) → d = .list ((playL cs R).map PyData.int)
abbrev FencedS (K : PySem.W.Frag) : Sp := Pu K (fun ds => ∃ R : List Int, ds = [.list (R.map PyData.int)] ∧ R.length ≤ 1000) fun ds d => ∀ R : List Int, ds = [.list (R.map PyData.int)] → d = .list ((fencedL R).map PyData.int)
abbrev PartsS (K : PySem.W.Frag) : Sp := Pu K (fun ds => ∃ R : List Int, ds = [.list (((-1) :: R).map PyData.int)] ∧ R.length ≤ 10000) fun ds d => ∀ R : List Int, ds = [.list (R.map PyData.int)] → d = .list ((R.foldl partStep []).map fun l => .tuple (l.map PyData.int))
/-- the law's own players -/
abbrev MovedS (K : PySem.W.Frag) : Sp := Pu K (fun ds => ∃ (R : List Int) (w : PySem.Str) (i j : Int), ds = [.tuple (R.map PyData.int), .tuple [.str w, .int i, .int j]] ∧ (w = "behind" ∨ w = "before") ∧ i ≠ j ∧ R.length ≤ 1000)
  fun ds d => ∃ (R : List Int) (w : PySem.Str) (i j : Int), ds = [.tuple (R.map PyData.int), .tuple [.str w, .int i, .int j]] ∧ d = .tuple ((R.flatMap (cmdMap (decide (w = "behind")) i j)).map PyData.int)
abbrev DoneS (K : PySem.W.Frag) : Sp := Pu K (fun ds => ∃ (xs R : List Int) (cs : List PyData), ds = [.tuple (R.map PyData.int), .tuple cs] ∧ (∀ c ∈ cs, GoodC xs c) ∧ Fit xs R ∧ R.length ≤ 1000)
  fun ds d => ∃ (R : List Int) (cs : List PyData), ds = [.tuple (R.map PyData.int), .tuple cs] ∧ d = .tuple ((playL cs R).map PyData.int)
theorem ints_inj : ∀ {a b : List Int}, a.map PyData.int = b.map PyData.int → a = b
  | [], [], _ => rfl
  | [], _ :: _, h => by cases h
  | _ :: _, [], h => by cases h
  | x :: a, y :: b, h => by
    rw [List.map_cons, List.map_cons] at h
    have h1 := PyData.int.inj (List.cons.inj h).1
    rw [h1, ints_inj (List.cons.inj h).2]
theorem playL_take {cs : List PyData} {R : List Int} {i : Nat} {c : PyData} (h : cs[i]? = some c) : playL (cs.take (i + 1)) R = stepD (playL (cs.take i) R) c := by
  unfold playL
  rw [List.take_add_one, h, List.foldl_append]
  rfl
end MA

set_option maxRecDepth 100000
set_option maxHeartbeats 2000000
namespace MA
open PySem PySem.Spec PyProof.Rows L2
/-! ## dicts from ints -/
def effM (ns : List Int) (F : Int → PyData) : PyData := .dict (ns.map fun n => (.int n, F n))
section
variable {K : PySem.W.Frag} {σ : L2.St} {B H : Hp} {tA tB tl tl1 td ty tx : TE}
theorem zip_val : ∀ {kvs : List (Key × V)} {ds : List PyData} {ns : List Int} {F : Int → PyData} (k : Int), DqAll K H (kvs.map (·.2)) ds → zipK kvs ds = ns.map (fun n => (PyData.int n, F n)) →
    if k ∈ ns then ∃ v, valV kvs (.inl k) = some v ∧ Dq K H v (F k) else valV kvs (.inl k) = none
  | [], ds, ns, F, k, q, e => by
    cases ns with
    | nil => rfl
    | cons n ns => cases ds <;> cases e
  | (k', v) :: kvs, [], ns, F, k, q, e => by cases q
  | (k', v) :: kvs, d :: ds, [], F, k, q, e => by cases e
  | (k', v) :: kvs, d :: ds, n :: ns, F, k, q, e => by
    cases q with
    | cons h q =>
      have e1 : (kD k', d) = (PyData.int n, F n) := (List.cons.inj e).1
      have e2 : zipK kvs ds = ns.map (fun n => (PyData.int n, F n)) := (List.cons.inj e).2
      have ek : k' = .inl n := by
        cases k' with
        | inl i => have := (Prod.mk.inj e1).1; exact congrArg _ (PyData.int.inj this)
        | inr s => have := (Prod.mk.inj e1).1; cases this
      have ed : d = F n := (Prod.mk.inj e1).2
      subst ek ed
      have ih := zip_val k q e2
      by_cases z : n = k
      · subst z
        rw [if_pos (List.mem_cons_self ..)]
        exact ⟨v, valV_pos rfl, h⟩
      · have hv : valV ((Sum.inl n, v) :: kvs) (Sum.inl k : Key) = valV kvs (Sum.inl k) := by
          unfold valV
          rw [List.find?_cons]
          simp [z]
        by_cases w : k ∈ ns
        · rw [if_pos w] at ih
          rw [if_pos (List.mem_cons_of_mem _ w), hv]
          exact ih
        · rw [if_neg w] at ih
          rw [if_neg (fun m => by rcases List.mem_cons.mp m with e | e; exact z e.symm; exact w e), hv]
          exact ih
theorem ev_dget2 {ns : List Int} {F : Int → PyData} {k : Int} {dd : PyData} (hd : Ev K td σ B H (effM ns F)) (hk : Ev K ty σ B H (.int k)) (hx : Ev K tx σ B H dd) : Ev K (tDGet2 td ty tx) σ B H (if k ∈ ns then F k else dd) := fun B1 H1 l Q q =>
  hd B1 H1 l _ fun v B2 H2 l2 hv => by
    unfold effM at hv
    generalize hE : ns.map (fun n => (PyData.int n, F n)) = L at hv
    cases hv with
    | dct h hq =>
      rename_i a kvs ds
      refine ⟨a, rfl, .inl ⟨kvs, .inl (l2.h _ _ h)⟩, ?_⟩
      refine hk B2 H2 (l.trans l2) _ fun w B3 H3 l3 hw => ?_
      cases hw
      refine hx B3 H3 ((l.trans l2).trans l3) _ fun u B4 H4 l4 hu => ?_
      have l24 := l3.trans l4
      refine ⟨valV kvs (.inl k), DGet.k (k := .inl k) (l4.h _ _ (l24.b _ _ h)), ?_⟩
      have z := zip_val (K := K) (H := B4) k (hq.mono l24.b) hE.symm
      by_cases w : k ∈ ns
      · rw [if_pos w] at z q
        obtain ⟨y, e1, e2⟩ := z
        rw [e1]
        exact q y B4 H4 (l2.trans l24) e2
      · rw [if_neg w] at z q
        rw [z]
        exact q u B4 H4 (l2.trans l24) hu
def kvsOf (ns : List Int) (ys : List V) : List (Key × V) := (ns.zip ys).map fun p => (.inl p.1, p.2)
theorem kvs_snd : ∀ {ns : List Int} {ys : List V}, ns.length = ys.length → (kvsOf ns ys).map (·.2) = ys
  | [], [], _ => rfl
  | n :: ns, y :: ys, h => by
    show y :: (kvsOf ns ys).map (·.2) = _
    rw [kvs_snd (by simpa using h)]
  | [], _ :: _, h => by simp at h
  | _ :: _, [], h => by simp at h
theorem kvs_zip {F : Int → PyData} : ∀ {ns : List Int} {ys : List V}, ns.length = ys.length → zipK (kvsOf ns ys) (ns.map F) = ns.map fun n => (PyData.int n, F n)
  | [], [], _ => rfl
  | n :: ns, y :: ys, h => by
    show (PyData.int n, F n) :: zipK (kvsOf ns ys) (ns.map F) = _
    rw [kvs_zip (by simpa using h)]
    rfl
  | [], _ :: _, h => by simp at h
  | _ :: _, [], h => by simp at h
theorem kvs_take {ns : List Int} {ys : List V} {i : Nat} {n : Int} {y : V} (h1 : ns[i]? = some n) (h2 : ys[i]? = some y) : kvsOf (ns.take (i + 1)) (ys.take (i + 1)) = kvsOf (ns.take i) (ys.take i) ++ [(.inl n, y)] := by
  unfold kvsOf
  rw [List.take_add_one, List.take_add_one, h1, h2]
  show ((ns.take i ++ [n]).zip (ys.take i ++ [y])).map _ = _
  have l1 : (ns.take i).length = (ys.take i).length := by
    have a1 := (List.getElem?_eq_some_iff.mp h1).1
    have a2 := (List.getElem?_eq_some_iff.mp h2).1
    rw [List.length_take, List.length_take]
    omega
  rw [List.zip_append l1, List.map_append]
  rfl
theorem kvs_new {ns : List Int} {ys : List V} {i : Nat} {n : Int} (hn : ns.Nodup) (h1 : ns[i]? = some n) : ((kvsOf (ns.take i) (ys.take i)).any fun kv => decide (kv.1 = (Sum.inl n : Key))) = false := by
  rw [List.any_eq_false]
  intro kv hkv
  unfold kvsOf at hkv
  obtain ⟨⟨a, b⟩, hab, rfl⟩ := List.mem_map.mp hkv
  have ha : a ∈ ns.take i := (List.of_mem_zip hab).1
  have hne : a ≠ n := fun z => by
    subst z
    exact (nodup_iff ns).mpr hn i a h1 ha
  simp only [decide_eq_true_eq]
  intro z
  exact hne (Sum.inl.inj z)
/-- {k: x for k, x in zip(ints, list)} -/
theorem evN_dcZip {ns : List Int} {F : Int → PyData} {i1 i2 : Nat} {vs : List Nat} (hA : Ev K tA σ B H (.list (ns.map PyData.int))) (hB : Ev K tB σ B H (.list (ns.map F))) (hn : ns.Nodup) (hz : ns.length ≤ 1000)
    (hw : ∀ x y, wipe (((wipe σ vs).set i1 (some x)).set i2 (some y)) vs = wipe σ vs := by intro _ _; rfl) (g1 : ∀ x y, (((wipe σ vs).set i1 (some x)).set i2 (some y))[i1]? = some (some x) := by intro _ _; rfl) (g2 : ∀ x y, (((wipe σ vs).set i1 (some x)).set i2 (some y))[i2]? = some (some y) := by intro _ _; rfl) :
    EvN K (tDc (iZip K (tCons tA (tCons tB tNil))) (gTup K 2 (gCons (gName i1) (gCons (gName i2) gNil))) tYes (tVar i1) (tVar i2) vs) σ B H (effM ns F) := fun B0 H0 l0 Q q => by
  refine hA B0 H0 l0 _ fun u B1 H1 l1 hu => hB B1 H1 (l0.trans l1) _ fun u2 B2 H2 l2 hu2 => ?_
  cases hu with
  | lst hs hq =>
    rename_i a xs
    cases ofInts hq
    cases hu2 with
    | lst hs2 hq2 =>
      rename_i b ys
      have hl : ns.length = ys.length := by rw [hq2.length, List.length_map]
      refine ⟨a, b, ns.map V.int, ys, rfl, .inl (.inl (l2.h _ _ (l2.b _ _ hs))), .inl (.inl (l2.h _ _ hs2)), fun D hD => ?_⟩
      have W := walk_zip (K := K) (a := a) (b := b) (xs := ns.map V.int) (ys := ys) (n := ns.length) (by rw [List.length_map]; omega)
      have hDb := none_of l2.h hD
      have hsl : 1000 < sizeLine := by rw [sizeLine_eq]; decide
      refine ⟨fun i m Hi => m = ns.length - i ∧ i ≤ ns.length ∧ ∃ Bi, Le [] B2 H2 Bi Hi ∧ Bi D = none ∧ Hi D = some (.dK (kvsOf (ns.take i) (ys.take i))), ⟨_, rfl, Nat.zero_le _, B2, Le.made l2.h hD, hDb, upd_same⟩, ?_⟩
      rintro i m Hi ⟨rfl, hi, Bi, le, hb, hh⟩
      have G : SqL K Hi a (ns.map V.int) ∧ SqL K Hi b ys := ⟨.inl (.inl (le.h _ _ (le.b _ _ (l2.b _ _ hs)))), .inl (.inl (le.h _ _ (le.b _ _ hs2)))⟩
      by_cases hlt : i < ns.length
      · have e1 : ns[i]? = some ns[i] := List.getElem?_eq_getElem hlt
        have e2 : ys[i]? = some ys[i] := List.getElem?_eq_getElem (by omega)
        refine .inr ⟨W.goes i Hi hlt G, fun Hn => ∃ Bi, Le [] B2 H2 Bi Hn ∧ Bi D = none ∧ Hn D = some (.dK (kvsOf (ns.take (i + 1)) (ys.take (i + 1)))), fun Hn p => ⟨ns.length - (i + 1), by omega, rfl, hlt, p⟩, fun x Hy y => ?_⟩
        obtain ⟨T, x1, x2, rfl, hT, rfl, f1, f2⟩ := W.yields i Hi x Hy hlt G y
        have ex1 : x1 = .int ns[i] := by
          have f1' : (ns.map V.int)[i]? = some x1 := f1
          rw [List.getElem?_map, e1] at f1'
          exact (Option.some.inj f1').symm
        have ex2 : x2 = ys[i] := Option.some.inj (f2.symm.trans e2)
        subst ex1 ex2
        have ln := Le.new (M := []) (o := .tup [.int ns[i], ys[i]]) le.h hT
        have hTD : T ≠ D := fun z => by rw [z, hh] at hT; cases hT
        refine ⟨T, [.int ns[i], ys[i]], rfl, .inl (.inl upd_same), rfl, .int ns[i], [ys[i]], rfl, ys[i], [], rfl, rfl, hw _ _, ?_⟩
        refine yes_i ?_
        rw [if_pos rfl]
        have hh2 : (upd Hi T (.tup [.int ns[i], ys[i]])) D = some (.dK (kvsOf (ns.take i) (ys.take i))) := by rw [upd_ne (Ne.symm hTD)]; exact hh
        have hb2 : (upd Bi T (.tup [.int ns[i], ys[i]])) D = none := by rw [upd_ne (Ne.symm hTD)]; exact hb
        refine ⟨.int ns[i], g1 _ _, ys[i], g2 _ _, _, .inl ns[i], rfl, hh2, ?_, ?_⟩
        · have : (kvsOf (ns.take i) (ys.take i)).length ≤ 1000 := by
            unfold kvsOf
            rw [List.length_map, List.length_zip, List.length_take]
            omega
          omega
        · have ep : putK (kvsOf (ns.take i) (ys.take i)) (Sum.inl ns[i] : Key) ys[i] = kvsOf (ns.take (i + 1)) (ys.take (i + 1)) := by
            unfold putK
            rw [kvs_new hn e1, if_neg (by decide), kvs_take e1 e2]
          rw [ep]
          have lp : Le [D] (upd Bi T (.tup [.int ns[i], ys[i]])) (upd Hi T (.tup [.int ns[i], ys[i]])) (upd Bi T (.tup [.int ns[i], ys[i]])) (upd (upd Hi T (.tup [.int ns[i], ys[i]])) D (.dK (kvsOf (ns.take (i + 1)) (ys.take (i + 1))))) := Le.put ln.h hb2 (by simp)
          exact ⟨_, (((le.trans ln).wk (by simp)).trans lp).local hD, hb2, upd_same⟩
      · have ei : i = ns.length := by omega
        subst ei
        refine .inl ⟨W.stops Hi G, ?_⟩
        rw [List.take_length, List.take_of_length_le (by omega)] at hh
        have lg := le.give hD hb hh
        have hd := Dq.dct (K := K) (H := upd Bi D (.dK (kvsOf ns ys))) (a := D) (kvs := kvsOf ns ys) (ds := ns.map F) upd_same (by rw [kvs_snd hl]; exact (hq2.mono le.b).mono (Evl.Ex.new hb))
        rw [kvs_zip hl] at hd
        exact q (.ref D) _ Hi (l1.trans (l2.trans lg)) ⟨D, rfl, (l1.trans l2).back hD⟩ hd
/-- [y for x in t for y in f(x)], ints -/
theorem ev_lc2T {xs : List Int} {j0 j1 : Nat} {vs vs1 : List Nat} (f : Int → List Int) (hl : Ev K tl σ B H (.tuple (xs.map PyData.int))) (hsz : (xs.flatMap f).length ≤ 100000)
    (hi : ∀ (k : Int) B1 H1, Le [] B H B1 H1 → k ∈ xs → Ev K tl1 ((wipe σ vs).set j0 (some (.int k))) B1 H1 (.tuple ((f k).map PyData.int)))
    (hw : ∀ x, wipe ((wipe σ vs).set j0 (some x)) vs = wipe σ vs := by intro _; rfl)
    (hw1 : ∀ x y, wipe ((wipe ((wipe σ vs).set j0 (some x)) vs1).set j1 (some y)) vs1 = wipe ((wipe σ vs).set j0 (some x)) vs1 := by intro _ _; rfl)
    (hg : ∀ x y, ((wipe ((wipe σ vs).set j0 (some x)) vs1).set j1 (some y))[j1]? = some (some y) := by intro _ _; rfl) :
    Ev K (tLc2 (iTup K tl) (gName j0) tYes (iTup K tl1) (gName j1) tYes (tVar j1) vs vs1) σ B H (.list ((xs.flatMap f).map PyData.int)) := fun B0 H0 l0 Q q => by
  refine hl B0 H0 l0 _ fun u B1 H1 l1 hu => ?_
  cases hu with
  | tup hs hq =>
    rename_i a ys
    cases ofInts hq
    have hsl : 100000 < sizeLine := by rw [sizeLine_eq]; decide
    refine ⟨a, rfl, ⟨_, Evl.ex_t l1.h hs⟩, fun D hD => ?_⟩
    have b1 := none_of l1.h hD
    refine ⟨fun i m Hi => m = xs.length - i ∧ i ≤ xs.length ∧ ∃ Bi, Le [] B1 H1 Bi Hi ∧ Bi D = none ∧ Hi D = some (.lst (((xs.take i).flatMap f).map V.int)), ⟨_, rfl, Nat.zero_le _, B1, Le.made l1.h hD, b1, upd_same⟩, ?_⟩
    rintro i m Hi ⟨rfl, hi', Bi, le, hb, hh⟩
    have hsq : SqT K Hi a (xs.map V.int) := Evl.ex_t (le.b.trans le.h) hs
    by_cases hlt : i < xs.length
    · have hx : xs[i]? = some xs[i] := List.getElem?_eq_getElem hlt
      have hy : (xs.map V.int)[i]? = some (.int xs[i]) := by rw [List.getElem?_map, hx]; rfl
      have htk : xs.take (i + 1) = xs.take i ++ [xs[i]] := by rw [List.take_add_one, hx]; rfl
      have hbound : ∀ j, ((xs.take i).flatMap f ++ (f xs[i]).take j).length ≤ 100000 := fun j => by
        have e1 : xs.flatMap f = (xs.take i).flatMap f ++ (f xs[i] ++ (xs.drop (i + 1)).flatMap f) := by
          have : xs = xs.take i ++ (xs[i] :: xs.drop (i + 1)) := by rw [List.getElem_cons_drop, List.take_append_drop]
          conv => lhs; rw [this]
          rw [List.flatMap_append, List.flatMap_cons]
        rw [e1, List.length_append, List.length_append] at hsz
        rw [List.length_append, List.length_take]
        omega
      refine .inr ⟨⟨_, _, hsq, hy⟩, fun Hn => ∃ Bi, Le [] B1 H1 Bi Hn ∧ Bi D = none ∧ Hn D = some (.lst (((xs.take (i + 1)).flatMap f).map V.int)), fun Hn p' => ⟨xs.length - (i + 1), by omega, rfl, hlt, p'⟩, fun x Hy y => ?_⟩
      obtain ⟨rfl, y⟩ := y
      have ex : x = .int xs[i] := Option.some.inj ((y _ hsq).symm.trans hy)
      subst ex
      refine ⟨hw _, yes_i ?_⟩
      rw [if_pos rfl]
      refine hi xs[i] Bi Hy (l0.trans (l1.trans le)) (List.getElem_mem hlt) Bi Hy (Le.refl le.h) _ fun u2 B2 H2 l2 hu2 => ?_
      have b2 := l2.own hh hb
      have hh2 := l2.k D _ (by simp) hh
      cases hu2 with
      | tup hs2 hq2 =>
        rename_i a2 ys2
        cases ofInts hq2
        refine ⟨a2, rfl, ⟨_, Evl.ex_t l2.h hs2⟩, fun j kk Hj => kk = (f xs[i]).length - j ∧ j ≤ (f xs[i]).length ∧ ∃ Bj, Le [D] B2 H2 Bj Hj ∧ Bj D = none ∧ Hj D = some (.lst (((xs.take i).flatMap f ++ (f xs[i]).take j).map V.int)), ⟨_, rfl, Nat.zero_le _, B2, Le.refl l2.h, b2, by rw [List.take_zero, List.append_nil]; exact hh2⟩, ?_⟩
        rintro j kk Hj ⟨rfl, hj, Bj, lj, bj, hj2⟩
        have hsq2 : SqT K Hj a2 ((f xs[i]).map V.int) := Evl.ex_t (lj.b.trans lj.h) hs2
        by_cases hlt2 : j < (f xs[i]).length
        · have hz : (f xs[i])[j]? = some (f xs[i])[j] := List.getElem?_eq_getElem hlt2
          have hzv : ((f xs[i]).map V.int)[j]? = some (.int (f xs[i])[j]) := by rw [List.getElem?_map, hz]; rfl
          refine .inr ⟨⟨_, _, hsq2, hzv⟩, fun Hn => ∃ Bj, Le [D] B2 H2 Bj Hn ∧ Bj D = none ∧ Hn D = some (.lst (((xs.take i).flatMap f ++ (f xs[i]).take (j + 1)).map V.int)), fun Hn p' => ⟨(f xs[i]).length - (j + 1), by omega, rfl, hlt2, p'⟩, fun x2 Hy2 y2 => ?_⟩
          obtain ⟨rfl, y2⟩ := y2
          have ex3 : x2 = .int (f xs[i])[j] := Option.some.inj ((y2 _ hsq2).symm.trans hzv)
          subst ex3
          refine ⟨hw1 _ _, yes_i ?_⟩
          rw [if_pos rfl]
          refine ⟨.int (f xs[i])[j], hg _ _, _, hj2, ?_, Bj, lj.trans (Le.put lj.h bj (by simp)), bj, ?_⟩
          · have := hbound j
            rw [List.length_map]
            omega
          · rw [upd_same, List.take_add_one, hz]
            simp only [List.map_append, Option.toList, List.map_cons, List.map_nil, List.append_assoc]
        · refine .inl ⟨⟨_, hsq2, by rw [List.length_map]; omega⟩, ?_⟩
          have ej : j = (f xs[i]).length := by omega
          subst ej
          refine ⟨Bj, (le.any.trans (l2.any.trans lj)).local hD, bj, ?_⟩
          rw [hj2, List.take_length, htk, List.flatMap_append, List.flatMap_cons, List.flatMap_nil, List.append_nil]
    · have ei : i = xs.length := by omega
      subst ei
      refine .inl ⟨⟨_, hsq, by rw [List.length_map]; exact Nat.le_refl _⟩, ?_⟩
      rw [List.take_length] at hh
      have lg := le.give hD hb hh
      exact q (.ref D) _ Hi (l1.trans lg) (.lst upd_same (dqInts _))
end
end MA

set_option maxRecDepth 100000
set_option maxHeartbeats 2000000
namespace MA
open PySem PySem.Spec PyProof.Rows L2
/-! ## == of rows of ints -/
section
variable {K : PySem.W.Frag} {H : Hp}
theorem dpInts : ∀ ns : List Int, DpAll K H (ns.map V.int) (ns.map PyData.int)
  | [] => .nil
  | n :: r => .cons (.int n) (dpInts r)
theorem lay_ints : ∀ ns : List Int, PyData.canLayAll0 (ns.map PyData.int) = true
  | [] => rfl
  | n :: r => by
    show (PyData.canLay0 (.int n) && PyData.canLayAll0 (r.map PyData.int)) = true
    rw [lay_ints r]
    rfl
theorem depth_ints : ∀ ns : List Int, PyData.depthAll (ns.map PyData.int) = 0
  | [] => rfl
  | n :: r => by
    show max (PyData.depth (.int n)) (PyData.depthAll (r.map PyData.int)) = 0
    rw [depth_ints r]
    rfl
theorem shaped_T (ns : List Int) : SeqAt.shaped (.tuple (ns.map PyData.int)) = true := by
  show (PyData.canLayAll0 (ns.map PyData.int) && decide (PyData.depthAll (ns.map PyData.int) + 1 ≤ 64)) = true
  rw [lay_ints, depth_ints]
  rfl
theorem shaped_L (ns : List Int) : SeqAt.shaped (.list (ns.map PyData.int)) = true := by
  show (PyData.canLayAll0 (ns.map PyData.int) && decide (PyData.depthAll (ns.map PyData.int) + 1 ≤ 64)) = true
  rw [lay_ints, depth_ints]
  rfl
theorem eqv_ints : ∀ as bs : List Int, PyData.eqvAll (as.map PyData.int) (bs.map PyData.int) = decide (as = bs)
  | [], [] => by simp [PyData.eqvAll]
  | [], _ :: _ => by simp [PyData.eqvAll]
  | _ :: _, [] => by simp [PyData.eqvAll]
  | a :: as, b :: bs => by
    show (PyData.eqv (.int a) (.int b) && PyData.eqvAll (as.map PyData.int) (bs.map PyData.int)) = _
    rw [eqv_ints as bs]
    have : PyData.eqv (.int a) (.int b) = decide (a = b) := by
      show (a == b) = _
      by_cases z : a = b <;> simp [z]
    rw [this]
    by_cases z : a = b <;> by_cases y : as = bs <;> simp [z, y]
theorem rv_eqTD {as bs : List Int} : RV K (rEqD K) (.tuple (as.map PyData.int)) (.tuple (bs.map PyData.int)) (.bool (decide (as = bs))) := fun B H v u e hv hu Q q => by
  cases hv with
  | tup h1 q1 =>
    cases hu with
    | tup h2 q2 =>
      cases ofInts q1
      cases ofInts q2
      refine ⟨.tuple (as.map PyData.int), .tuple (bs.map PyData.int), .tup (Evl.ex_t e h1) (dpInts _), .tup (Evl.ex_t e h2) (dpInts _), shaped_T _, shaped_T _, ?_⟩
      rw [show PyData.eqv (.tuple (as.map PyData.int)) (.tuple (bs.map PyData.int)) = decide (as = bs) from by simp only [PyData.eqv]; exact eqv_ints as bs]
      exact q _ B H (Le.refl e) (.bl _)
theorem rv_neTD {as bs : List Int} : RV K (rNeD K) (.tuple (as.map PyData.int)) (.tuple (bs.map PyData.int)) (.bool (!decide (as = bs))) := fun B H v u e hv hu Q q => by
  cases hv with
  | tup h1 q1 =>
    cases hu with
    | tup h2 q2 =>
      cases ofInts q1
      cases ofInts q2
      refine ⟨.tuple (as.map PyData.int), .tuple (bs.map PyData.int), .tup (Evl.ex_t e h1) (dpInts _), .tup (Evl.ex_t e h2) (dpInts _), shaped_T _, shaped_T _, ?_⟩
      rw [show PyData.eqv (.tuple (as.map PyData.int)) (.tuple (bs.map PyData.int)) = decide (as = bs) from by simp only [PyData.eqv]; exact eqv_ints as bs]
      exact q _ B H (Le.refl e) (.bl _)
theorem rv_eqLD {as bs : List Int} : RV K (rEqD K) (.list (as.map PyData.int)) (.list (bs.map PyData.int)) (.bool (decide (as = bs))) := fun B H v u e hv hu Q q => by
  cases hv with
  | lst h1 q1 =>
    cases hu with
    | lst h2 q2 =>
      cases ofInts q1
      cases ofInts q2
      refine ⟨.list (as.map PyData.int), .list (bs.map PyData.int), .lst (.inl (.inl (e _ _ h1))) (dpInts _), .lst (.inl (.inl (e _ _ h2))) (dpInts _), shaped_L _, shaped_L _, ?_⟩
      rw [show PyData.eqv (.list (as.map PyData.int)) (.list (bs.map PyData.int)) = decide (as = bs) from by simp only [PyData.eqv]; exact eqv_ints as bs]
      exact q _ B H (Le.refl e) (.bl _)
theorem rv_neLD {as bs : List Int} : RV K (rNeD K) (.list (as.map PyData.int)) (.list (bs.map PyData.int)) (.bool (!decide (as = bs))) := fun B H v u e hv hu Q q => by
  cases hv with
  | lst h1 q1 =>
    cases hu with
    | lst h2 q2 =>
      cases ofInts q1
      cases ofInts q2
      refine ⟨.list (as.map PyData.int), .list (bs.map PyData.int), .lst (.inl (.inl (e _ _ h1))) (dpInts _), .lst (.inl (.inl (e _ _ h2))) (dpInts _), shaped_L _, shaped_L _, ?_⟩
      rw [show PyData.eqv (.list (as.map PyData.int)) (.list (bs.map PyData.int)) = decide (as = bs) from by simp only [PyData.eqv]; exact eqv_ints as bs]
      exact q _ B H (Le.refl e) (.bl _)
end
/-! ## for k, x in d.items(), d made on the way: the dict is locked behind its making, for good -/
def iItemsL (td : TE) : TI := fun σ H R => td σ H fun x H1 => ∃ d kvs, x = .ref d ∧ H1 d = some (.dK kvs) ∧ ∀ od, R (Iti d od kvs) (upd H1 d (.frz od (.dK kvs)))
theorem pi_itemsL {X : Cx} {e : Expr} {td : TE} {apos cpos : Pos} {elts : List Expr} {kk : Nat} {tpos : Pos} (he : PE X e td) (hbase : attributeBase e "items" X.env (eval e X.env) = eval e X.env := by rfl) (hline : (apos.endLine == cpos.line) = true := by rfl) :
    PI X (.Tuple elts kk tpos) (.Call (.Attribute e "items" apos) [] [] cpos) (iItemsL td) := by
  refine ⟨fun pins s σ H R I h => ?_⟩
  refine wpAny_Call_method (T := "dict") (id := "dict.items") hbase rfl hline PySem.F.plainAttrs_dict PySem.F.slot_dict_items PySem.F.type_dict_items (thn (he.run pins s σ H _ I h) fun u s1 ⟨x, H1, I1, rx, d, kvs, ex, hd, q⟩ => ?_)
  subst ex
  obtain rfl : u = Value.ref d := rx
  obtain ⟨od, IL⟩ := I1.lock hd trivial
  have hdL : (upd H1 d (.frz od (.dK kvs))) d = some (.frz od (.dK kvs)) := upd_same
  obtain ⟨hs, hgd, hx, es, ep, vs, hdt, hsz, kv, hm⟩ := IL.frzK hdL
  have hl : kvs.length = vs.length := Paired.length kv
  refine ⟨hm.dictOf.typeIs, hm.dictOf.mapOf.noDict, ?_⟩
  have I2 : Inv X pins σ (upd H1 d (.frz od (.dK kvs))) { s1 with heap := s1.heap.push { cls := .type "dict_items", data := .fields #[.ref d] } } := IL.kept (t' := s1.toks) fun b ob q => Heap.get?_push_of_some _ q
  have fin : wpAny (model X.prog X.w) X.A (pyIter (.ref s1.heap.objs.size)) (PIE X pins σ (.Tuple elts kk tpos) R) X.xe { s1 with heap := s1.heap.push { cls := .type "dict_items", data := .fields #[.ref d] } } := by
    refine wpAny_pyIter_items (d := d) (knd := mixKind X.prog X.w) ⟨_, Heap.get?_push_size _ rfl, rfl, rfl⟩ (hm.push _) (pi_one (tk := s1.toks) I2 _ (turn_items _ hdt) ⟨.none, .none, ?_⟩ (q od))
    rw [hl]
    exact Heap.get?_push_size _ rfl
  show wpAny _ _ (callWith cpos (.builtin "dict.items") [.ref d] [] []) _ X.xe s1
  exact method_meetsIn PySem.F.slot_dict_items PySem.F.entry_dict_items rfl (PySem.evalArgs_none ⟨rfl, hm.dictOf.typeIs, PySem.F.args_dict_items_1 _, _, meets_dict_items (mixKind X.prog X.w) d hs, ⟨vs, hm.dictOf⟩, fin⟩)
theorem Dq.off {K : PySem.W.Frag} {B : Hp} {d : Addr} {kvs : List (Key × V)} {v : V} {ns : List Int} (h : Dq K B v (.tuple (ns.map PyData.int))) (hd : B d = some (.dK kvs)) : Dq K (dropB B d) v (.tuple (ns.map PyData.int)) := by
  cases h with
  | tup hs hq =>
    rename_i a xs
    cases ofInts hq
    refine .tup ?_ (dqInts _)
    have ne : ∀ o, B a = some o → (∀ l, o ≠ .dK l) → dropB B d a = some o := fun o ho hn => by
      have : a ≠ d := fun z => by rw [z, hd] at ho; cases ho; exact hn _ rfl
      show (if a = d then none else B a) = some o
      rw [if_neg this]
      exact ho
    rcases hs with (h | ⟨od, h⟩) | h
    · exact .inl (.inl (ne _ h fun l z => by cases z))
    · exact .inl (.inr ⟨od, ne _ h fun l z => by cases z⟩)
    · exact .inr h
theorem DqAll.off {K : PySem.W.Frag} {B : Hp} {d : Addr} {kvs : List (Key × V)} {m : Int → List Int} (hd : B d = some (.dK kvs)) : ∀ {vs : List V} {ns : List Int}, DqAll K B vs (ns.map fun n => .tuple ((m n).map PyData.int)) → DqAll K (dropB B d) vs (ns.map fun n => .tuple ((m n).map PyData.int))
  | _, [], h => by cases h; exact .nil
  | _, n :: ns, h => by
    cases h with
    | cons h q => exact .cons (h.off hd) (DqAll.off hd q)
theorem zip_parts : ∀ {kvs : List (Key × V)} {ds : List PyData} {ns : List Int} {F : Int → PyData}, kvs.length = ds.length → zipK kvs ds = ns.map (fun n => (PyData.int n, F n)) → kvs.map (·.1) = ns.map Sum.inl ∧ ds = ns.map F
  | [], [], ns, F, _, e => by
    cases ns with
    | nil => exact ⟨rfl, rfl⟩
    | cons _ _ => cases e
  | (k', v) :: kvs, d :: ds, [], F, _, e => by cases e
  | (k', v) :: kvs, d :: ds, n :: ns, F, h, e => by
    have e1 : (kD k', d) = (PyData.int n, F n) := (List.cons.inj e).1
    obtain ⟨r1, r2⟩ := zip_parts (kvs := kvs) (ds := ds) (ns := ns) (F := F) (by simpa using h) (List.cons.inj e).2
    have ek : k' = .inl n := by
      cases k' with
      | inl i => exact congrArg _ (PyData.int.inj (Prod.mk.inj e1).1)
      | inr s => cases (Prod.mk.inj e1).1
    exact ⟨by rw [List.map_cons, List.map_cons, r1, ek], by rw [List.map_cons, r2, (Prod.mk.inj e1).2]⟩
  | [], _ :: _, _, _, h, _ => by simp at h
  | _ :: _, [], _, _, h, _ => by simp at h
section
variable {K : PySem.W.Frag} {σ : L2.St} {B H : Hp} {td : TE} {D : Ends} {tb tz : TS}
theorem q_forItems {ns : List Int} {m : Int → List Int} {i1 i2 : Nat} (hl : EvN K td σ B H (effM ns fun n => .tuple ((m n).map PyData.int))) (e : Ex B H) (I : Nat → L2.St → Prop) (h0 : I 0 σ)
    (hs : ∀ (i : Nat) (n : Int) (y : V) σ' B' H' N, Le [] B H B' H' → ns[i]? = some n → Dq K B' y (.tuple ((m n).map PyData.int)) → I i σ' → (∀ σ3 B3 H3, Le [] B' H' B3 H3 → I (i + 1) σ3 → N σ3 H3) →
      tb { D with nx := N, ct := N, bk := tz D } ((σ'.set i1 (some (.int n))).set i2 (some y)) H')
    (hd : ∀ σ' B' H', Le [] B H B' H' → I ns.length σ' → tz D σ' H') : tSeq (tFor (iItemsL td) (gTup K 2 (gCons (gName i1) (gCons (gName i2) gNil))) tb) tz D σ H := by
  refine hl B H (Le.refl e) _ fun u B1 H1 l1 hn hu => ?_
  obtain ⟨d, rfl, hdn⟩ := hn
  unfold effM at hu
  generalize hE : ns.map (fun n => (PyData.int n, PyData.tuple ((m n).map PyData.int))) = L at hu
  cases hu with
  | dct h hq =>
    rename_i kvs ds
    obtain ⟨z1, z2⟩ := zip_parts (by have := hq.length; rwa [List.length_map] at this) hE.symm
    subst z2
    have hq1 := DqAll.off h hq
    obtain ⟨ld, dn⟩ := l1.drop e hdn
    refine ⟨d, kvs, rfl, l1.h _ _ h, fun od => ?_⟩
    have lf : Le [] B H (dropB B1 d) (upd H1 d (.frz od (.dK kvs))) := ((ld.wk (by simp)).trans (Le.put (M := [d]) ld.h dn (by simp))).local hdn
    have W := walk_items (d := d) (o := od) (kvs := kvs)
    have hlen : kvs.length = ns.length := by have := congrArg List.length z1; rwa [List.length_map, List.length_map] at this
    refine for_it W (fun i σ' H' => ∃ B', Le [] (dropB B1 d) (upd H1 d (.frz od (.dK kvs))) B' H' ∧ I i σ') ⟨_, Le.refl lf.h, h0⟩ (fun i σ' H' _ p => ?_) (fun i x σ' H' H2 hi p y => ?_) (fun σ' H' p => ?_)
    · obtain ⟨B', l, _⟩ := p
      exact l.k d _ (by simp) upd_same
    · obtain ⟨B', l, hI⟩ := p
      obtain ⟨T, x1, x2, rfl, hT, rfl, f1, f2⟩ := y
      have hn : ns[i]? = some ns[i] := List.getElem?_eq_getElem (by omega)
      obtain ⟨⟨k0, v0⟩, hkv⟩ : ∃ p, kvs[i]? = some p := ⟨kvs[i], List.getElem?_eq_getElem hi⟩
      have ek : k0 = .inl ns[i] := by
        have := congrArg (fun l => l[i]?) z1
        simp only [List.getElem?_map, hkv, hn, Option.map_some] at this
        exact Option.some.inj this
      have e1 : x1 = .int ns[i] := by
        have f1' : (kvs[i]?.map fun kv => kV kv.1) = some x1 := f1
        rw [hkv, ek] at f1'
        exact (Option.some.inj f1').symm
      have e2 : x2 = v0 := by
        have f2' : (kvs[i]?.map Prod.snd) = some x2 := f2
        rw [hkv] at f2'
        exact (Option.some.inj f2').symm
      subst e1 e2
      have hy : Dq K (dropB B1 d) x2 (.tuple ((m ns[i]).map PyData.int)) := by
        obtain ⟨d', hd', hx⟩ := hq1.get (i := i) (v := x2) (by rw [List.getElem?_map, hkv]; rfl)
        rw [List.getElem?_map, hn] at hd'
        cases hd'
        exact hx
      have ln := Le.new (M := []) (o := .tup [.int ns[i], x2]) l.h hT
      refine ⟨T, [.int ns[i], x2], rfl, .inl (.inl upd_same), rfl, .int ns[i], [x2], rfl, x2, [], rfl, rfl, ?_⟩
      exact hs i ns[i] x2 σ' _ _ _ (lf.trans (l.trans ln)) hn ((hy.mono l.b).mono ln.b) hI fun σ3 B3 H3 l3 hI3 => ⟨B3, (l.trans ln).trans l3, hI3⟩
    · obtain ⟨B', l, hI⟩ := p
      rw [hlen] at hI
      exact hd σ' B' H' (lf.trans l) hI
end
end MA

set_option maxRecDepth 100000
set_option maxHeartbeats 2000000
namespace MA
open PySem PySem.Spec PyProof.Rows L2
section
variable {K : PySem.W.Frag} {σ : L2.St} {B H : Hp} {te tn : TE} {tt : TT}
/-- [.. for k in range(n) if ..] -/
theorem ev_lcR {n : Nat} {j : Nat} {vs : List Nat} (f : Nat → Bool) (g : Nat → PyData) (h : Ev K tn σ B H (.int (n : Nat))) (hz : n ≤ 100000)
    (ht : ∀ (i : Nat) B1 H1, Le [] B H B1 H1 → i < n → EvT tt ((wipe σ vs).set j (some (.int (i : Nat)))) B1 H1 (f i))
    (he : ∀ (i : Nat) B1 H1, Le [] B H B1 H1 → i < n → f i = true → Ev K te ((wipe σ vs).set j (some (.int (i : Nat)))) B1 H1 (g i))
    (hw : ∀ x, wipe ((wipe σ vs).set j (some x)) vs = wipe σ vs := by intro _; rfl) :
    Ev K (tLc (iRng1 (tCons tn tNil)) (gName j) tt te vs) σ B H (.list (picked f g n)) := fun B0 H0 l0 Q q => by
  refine h B0 H0 l0 _ fun u B1 H1 l1 hu => ?_
  cases hu
  refine ⟨(n : Nat), rfl, by omega, by omega, fun D hD => ?_⟩
  rw [show ((n : Nat) : Int).toNat = n by omega]
  have hB := none_of l1.h hD
  refine lc_range (lo := 0) (n := n) (Lw K B1 H1 D f g) ⟨B1, [], Le.made l1.h hD, hB, upd_same, .nil⟩ (fun i Hi hi p => ⟨hw _, ?_⟩) fun Hi p => ?_
  · rw [Int.zero_add]
    exact Lw.turn hD p (by omega) (fun Bi l => ht i Bi Hi (l0.trans (l1.trans l)) hi) fun Bi Hj l hf => he i Bi Hj (l0.trans (l1.trans l)) hi hf
  · obtain ⟨Bi, acc, l, hb, hh, hq2⟩ := p
    have lg := l.give hD hb hh
    exact q (.ref D) _ Hi (l1.trans lg) (.lst upd_same (hq2.mono (Evl.Ex.new hb)))
end
theorem find_first {p : Int → Bool} : ∀ {ns : List Int} {k : Nat} {n : Int}, ns[k]? = some n → p n = true → (∀ x ∈ ns.take k, p x = false) → ns.find? p = some n
  | [], k, n, h, _, _ => by simp at h
  | a :: ns, 0, n, h, hp, _ => by
    simp at h
    subst h
    rw [List.find?_cons, hp]
  | a :: ns, k + 1, n, h, hp, hx => by
    rw [List.find?_cons, hx a (by simp)]
    exact find_first (k := k) (by simpa using h) hp fun x hx' => hx x (by rw [List.take_succ_cons]; exact List.mem_cons_of_mem _ hx')
end MA

set_option maxRecDepth 100000
set_option maxHeartbeats 2000000
namespace PySem.W
open PySem PySem.Calls
namespace MCF
theorem entry_perm : entryFor table "math.perm" = some Builtin.«math.perm» := entryFor_of_tree (by kernel_rfl)
theorem kind_perm : builtinKind "math.perm" = none := by kernel_rfl
theorem plain_perm : plainId "math.perm" = true := by decide +kernel
theorem args_perm (a b : Value) : argsOk "math.perm" ⟨[a, b], []⟩ := by unfold argsOk; kernel_rfl
theorem run_perm (a : Int) (t : Tok) (b : Int) (u : Tok) (h0 : ¬a < 0) (h1 : ¬b < 0) (h2 : ¬b > a) (h3 : ¬b > Builtin.Math.maxSsize) (h4 : ¬b > Builtin.Math.manyFactors) (hsz : (Builtin.Math.fallingProduct a b.toNat).natAbs.log2 < bitsLine) :
    Gives (Builtin.«math.perm» ⟨[.int a t, .int b u], []⟩) (.int (Builtin.Math.fallingProduct a b.toNat)) :=
  .of_wp fun M A E s Q h => by obtain ⟨hp, g, d, tk, os⟩ := s; wp_walk; (try (refine wpAny_ite_false (decide_eq_false (Nat.not_le.mpr hsz)) ?_; wp_walk)); exact ⟨_, rfl, h⟩
end MCF
section
variable {prog : Program} {w : World} {A : Around} {E : Value → Shared → Prop} {s : Shared} {Q : Value → Shared → Prop} {a b : Int} {t u : Tok}
theorem xc_perm (h0 : ¬a < 0) (h1 : ¬b < 0) (h2 : ¬b > a) (h3 : ¬b > Builtin.Math.maxSsize) (h4 : ¬b > Builtin.Math.manyFactors) (hsz : (Builtin.Math.fallingProduct a b.toNat).natAbs.log2 < bitsLine)
    (h : Q (.int (Builtin.Math.fallingProduct a b.toNat) s.toks) { s with toks := s.toks + 1 }) : wpAny (model prog w) A (call (.builtin "math.perm") [.int a t, .int b u]) Q E s :=
  call_function_meets MCF.kind_perm MCF.plain_perm MCF.entry_perm (MCF.args_perm _ _) (MCF.run_perm a t b u h0 h1 h2 h3 h4 hsz).meets h
end
end PySem.W
namespace MA
open PySem PySem.Spec PyProof.Rows L2
section
variable {X : Cx}
/-! ## math.factorial, math.perm of small numbers; powers of great ones -/
def rFac : List V → Hp → VK → Prop := fun vs H Q => ∃ n : Int, vs = [.int n] ∧ (0 ≤ n ∧ n ≤ 20000 ∧ ((Builtin.Math.factorialNat n.toNat : Nat) : Int).natAbs.log2 < bitsLine) ∧ Q (.int ((Builtin.Math.factorialNat n.toNat : Nat) : Int)) H
theorem cr_fac : CallR X (.builtin "math.factorial") rFac := by
  intro pins s σ H vs us Q I r h
  obtain ⟨n, rfl, ⟨h0, h1, h2⟩, q⟩ := h
  obtain ⟨u, rfl, t, rfl⟩ := vals1 r
  exact PySem.W.mg_factorial (by unfold Builtin.Math.maxSsize; omega) (by omega) (by unfold Builtin.Math.manyFactors; omega) h2 ⟨.int _, H, I.tok _, ⟨_, rfl⟩, q⟩
def rPerm : List V → Hp → VK → Prop := fun vs H Q => ∃ n k : Int, vs = [.int n, .int k] ∧ (0 ≤ k ∧ k ≤ n ∧ k ≤ 20000 ∧ (Builtin.Math.fallingProduct n k.toNat).natAbs.log2 < bitsLine) ∧ Q (.int (Builtin.Math.fallingProduct n k.toNat)) H
theorem cr_perm : CallR X (.builtin "math.perm") rPerm := by
  intro pins s σ H vs us Q I r h
  obtain ⟨n, k, rfl, ⟨h0, h1, h2, h3⟩, q⟩ := h
  obtain ⟨t, u, rfl⟩ := Vals.int2 r
  exact PySem.W.xc_perm (by omega) (by omega) (by omega) (by unfold Builtin.Math.maxSsize; omega) (by unfold Builtin.Math.manyFactors; omega) h3 ⟨.int _, H, I.tok _, ⟨_, rfl⟩, q⟩
def CPowW (i j : Int) : Prop := 0 ≤ j ∧ (Builtin.Int.intBits i : Int) * j ≤ 2 ^ 27
theorem op_powW : OpR X (binaryOp .Pow) (rI CPowW fun i j => .int (i ^ j.toNat)) := opI fun _ _ _ _ _ _ _ hc q => pow_int hc.1 hc.2 q
theorem cpow {i j : Int} {k : Nat} (h : i.natAbs < 2 ^ k) (h0 : 0 ≤ j) (h1 : (k : Int) * j ≤ 2 ^ 27) : CPowW i j := by
  refine ⟨h0, Int.le_trans ?_ h1⟩
  have := intBits_le h
  exact Int.mul_le_mul_of_nonneg_right (by omega) h0
end
section
variable {K : PySem.W.Frag} {σ : L2.St} {B H : Hp} {D : Ends} {tb tz : TS} {gg : TG}
theorem rc_fac {n : Int} (h : 0 ≤ n ∧ n ≤ 20000 ∧ ((Builtin.Math.factorialNat n.toNat : Nat) : Int).natAbs.log2 < bitsLine) : RC K rFac [.int n] (.int ((Builtin.Math.factorialNat n.toNat : Nat) : Int)) := fun B H vs e hvs Q q => by
  obtain ⟨v, rfl, hv⟩ := dq1 hvs
  cases hv
  exact ⟨n, rfl, h, q _ B H (Le.refl e) (.int _)⟩
theorem rc_perm {n k : Int} (h : 0 ≤ k ∧ k ≤ n ∧ k ≤ 20000 ∧ (Builtin.Math.fallingProduct n k.toNat).natAbs.log2 < bitsLine) : RC K rPerm [.int n, .int k] (.int (Builtin.Math.fallingProduct n k.toNat)) := fun B H vs e hvs Q q => by
  obtain ⟨v, u, rfl, hv, hu⟩ := dq2 hvs
  cases hv
  cases hu
  exact ⟨n, k, rfl, h, q _ B H (Le.refl e) (.int _)⟩
/-- over range(n) or range(m, n), the bounds known; the body keeps what is known -/
theorem s_forN {ta : TA} {n : Int} (hta : EvA K ta σ B H [.int n]) (h0 : 0 ≤ n) (h1 : n ≤ 1000000) (e : Ex B H) (I : Nat → L2.St → Hp → Prop) (hi : ∀ B1 H1, Le [] B H B1 H1 → I 0 σ B1)
    (hs : ∀ (i : Nat) σ' B' H' N, (i : Int) < n → Le [] B H B' H' → I i σ' B' → (∀ σ3 B3 H3, Le [] B' H' B3 H3 → I (i + 1) σ3 B3 → N σ3 H3) →
      gg (.int (0 + (i : Nat))) σ' H' fun σ2 H2 => tb { D with nx := N, ct := N, bk := D.nx } σ2 H2)
    (hd : ∀ σ' B' H', Le [] B H B' H' → I n.toNat σ' B' → D.nx σ' H') : tFor (iRng1 ta) gg tb D σ H := by
  refine hta B H (Le.refl e) _ fun us B1 H1 l1 hus => ?_
  obtain ⟨u, rfl, hu⟩ := dq1 hus
  cases hu
  refine ⟨n, rfl, by omega, by omega, ?_⟩
  refine for_range (lo := 0) (n := n.toNat) (fun i σ' H' => ∃ B', Le [] B1 H1 B' H' ∧ I i σ' B') ⟨B1, Le.refl l1.h, hi B1 H1 l1⟩ (fun i σ' H' hlt p => ?_) (fun σ' H' p => ?_)
  · obtain ⟨B', l, hI⟩ := p
    exact hs i σ' B' H' _ (by omega) (l1.trans l) hI fun σ3 B3 H3 l3 hI3 => ⟨B3, l.trans l3, hI3⟩
  · obtain ⟨B', l, hI⟩ := p
    exact hd σ' B' H' (l1.trans l) hI
theorem q_forN {ta : TA} {n : Int} (hta : EvA K ta σ B H [.int n]) (h0 : 0 ≤ n) (h1 : n ≤ 1000000) (e : Ex B H) (I : Nat → L2.St → Hp → Prop) (hi : ∀ B1 H1, Le [] B H B1 H1 → I 0 σ B1)
    (hs : ∀ (i : Nat) σ' B' H' N, (i : Int) < n → Le [] B H B' H' → I i σ' B' → (∀ σ3 B3 H3, Le [] B' H' B3 H3 → I (i + 1) σ3 B3 → N σ3 H3) →
      gg (.int (0 + (i : Nat))) σ' H' fun σ2 H2 => tb { D with nx := N, ct := N, bk := tz D } σ2 H2)
    (hd : ∀ σ' B' H', Le [] B H B' H' → I n.toNat σ' B' → tz D σ' H') : tSeq (tFor (iRng1 ta) gg tb) tz D σ H := s_forN (D := { D with nx := tz D }) hta h0 h1 e I hi hs hd
theorem q_forN2 {ta : TA} {m n : Int} (hta : EvA K ta σ B H [.int m, .int n]) (h0 : 0 ≤ m) (h2 : m ≤ n) (h1 : n ≤ 1000000) (e : Ex B H) (I : Nat → L2.St → Hp → Prop) (hi : ∀ B1 H1, Le [] B H B1 H1 → I 0 σ B1)
    (hs : ∀ (i : Nat) σ' B' H' N, (i : Int) < n - m → Le [] B H B' H' → I i σ' B' → (∀ σ3 B3 H3, Le [] B' H' B3 H3 → I (i + 1) σ3 B3 → N σ3 H3) →
      gg (.int (m + (i : Nat))) σ' H' fun σ2 H2 => tb { D with nx := N, ct := N, bk := tz D } σ2 H2)
    (hd : ∀ σ' B' H', Le [] B H B' H' → I (n - m).toNat σ' B' → tz D σ' H') : tSeq (tFor (iRng2 ta) gg tb) tz D σ H := by
  refine hta B H (Le.refl e) _ fun us B1 H1 l1 hus => ?_
  obtain ⟨u, v, rfl, hu, hv⟩ := dq2 hus
  cases hu
  cases hv
  refine ⟨m, n, rfl, ⟨by omega, by omega, by omega, by omega⟩, ?_⟩
  refine for_range (lo := m) (n := (n - m).toNat) (fun i σ' H' => ∃ B', Le [] B1 H1 B' H' ∧ I i σ' B') ⟨B1, Le.refl l1.h, hi B1 H1 l1⟩ (fun i σ' H' hlt p => ?_) (fun σ' H' p => ?_)
  · obtain ⟨B', l, hI⟩ := p
    exact hs i σ' B' H' _ (by omega) (l1.trans l) hI fun σ3 B3 H3 l3 hI3 => ⟨B3, l.trans l3, hI3⟩
  · obtain ⟨B', l, hI⟩ := p
    exact hd σ' B' H' (l1.trans l) hI
def rMin2 : List V → Hp → VK → Prop := fun xs H Q => ∃ i j, xs = [V.int i, V.int j] ∧ Q (.int (if j < i then j else i)) H
def rMax2 : List V → Hp → VK → Prop := fun xs H Q => ∃ i j, xs = [V.int i, V.int j] ∧ Q (.int (if j > i then j else i)) H
theorem rc_min {i j : Int} : RC K rMin2 [.int i, .int j] (.int (min i j)) := fun B H vs e hvs Q q => by
  obtain ⟨v, u, rfl, hv, hu⟩ := dq2 hvs
  cases hv
  cases hu
  refine ⟨i, j, rfl, ?_⟩
  rw [show (if j < i then j else i) = min i j by omega]
  exact q _ B H (Le.refl e) (.int _)
theorem rc_max {i j : Int} : RC K rMax2 [.int i, .int j] (.int (max i j)) := fun B H vs e hvs Q q => by
  obtain ⟨v, u, rfl, hv, hu⟩ := dq2 hvs
  cases hv
  cases hu
  refine ⟨i, j, rfl, ?_⟩
  rw [show (if j > i then j else i) = max i j by omega]
  exact q _ B H (Le.refl e) (.int _)
/-- [..] * k -/
theorem rv_mulL {ds : List PyData} {k : Int} (h2 : 0 ≤ k) (h3 : k ≤ 1000) (h4 : ds.length ≤ 100) : RV K (rMulA K) (.list ds) (.int k) (.list (List.replicate k.toNat ds).flatten) := fun B H v u e hv hu Q q => by
  cases hu
  cases hv with
  | lst h1 q1 =>
    rename_i a xs
    have hl := q1.length
    have hm : xs.length * k.toNat ≤ 100 * 1000 := Nat.mul_le_mul (by omega) (by omega)
    refine .inr (.inr ⟨a, k, xs, rfl, rfl, e _ _ h1, by omega, by omega, size_ok hm, fun p hp => ?_⟩)
    exact q (.ref p) _ _ (Le.new e hp) (.lst upd_same ((q1.flatRep _).mono (Le.new (M := []) e hp).b))
end
end MA

set_option maxRecDepth 100000
set_option maxHeartbeats 4000000
namespace K35
open PySem PySem.Spec PyProof.Rows L2 MA
def topS (i : Nat) : Stmt := PySem.Challenge.pw_moveafter_k35_effects_counted.main.body.getD i (.Pass ⟨0, 0, 0, 0⟩)
abbrev s_is_within : Stmt := topS 6
abbrev N_is_within : List PySem.Str := ["value", "least", "most"]
theorem sc_is_within : FnScope N_is_within ["value", "least", "most"] (defScope s_is_within) := by refine ⟨rfl, rfl, rfl, ?_, rfl, ?_, ?_⟩ <;> decide +kernel
abbrev s_count_effects : Stmt := topS 8
abbrev N_count_effects : List PySem.Str := ["size"]
theorem sc_count_effects : FnScope N_count_effects ["size"] (defScope s_count_effects) := by refine ⟨rfl, rfl, rfl, ?_, rfl, ?_, ?_⟩ <;> decide +kernel
abbrev s__law_jug : Stmt := topS 10
abbrev N__law_jug : List PySem.Str := ["script", "k", "cell"]
theorem sc__law_jug : FnScope N__law_jug ["script", "k"] (defScope s__law_jug) := by refine ⟨rfl, rfl, rfl, ?_, rfl, ?_, ?_⟩ <;> decide +kernel
abbrev s__law_drop : Stmt := topS 11
abbrev N__law_drop : List PySem.Str := ["jug", "many", "found", "mixed"]
theorem sc__law_drop : FnScope N__law_drop ["jug", "many"] (defScope s__law_drop) := by refine ⟨rfl, rfl, rfl, ?_, rfl, ?_, ?_⟩ <;> decide +kernel
abbrev s__law_due : Stmt := topS 12
abbrev N__law_due : List PySem.Str := ["size_here", "rows", "orders", "many"]
theorem sc__law_due : FnScope N__law_due ["size_here"] (defScope s__law_due) := by refine ⟨rfl, rfl, rfl, ?_, rfl, ?_, ?_⟩ <;> decide +kernel
abbrev s_law : Stmt := topS 13
abbrev N_law : List PySem.Str := ["script", "size_here", "k", "again"]
theorem sc_law : FnScope N_law ["script"] (defScope s_law) := by refine ⟨rfl, rfl, rfl, ?_, rfl, ?_, ?_⟩ <;> decide +kernel
/-! the numbers -/
def effN (n : Nat) : Int := Builtin.Math.fallingProduct (2 * (n : Int) - 1) n - ((Builtin.Math.factorialNat n : Nat) : Int) + 1
def effD : PyData → PyData
  | .int n => .int (effN n.toNat)
  | _ => .none
def dueR (n : Nat) : Nat → Int
  | 0 => 1
  | m + 1 => dueR n m * ((n : Int) + (m : Int))
def dueO : Nat → Int
  | 0 => 1
  | m + 1 => dueO m * ((m : Int) + 1)
def dueN (n : Nat) : Int := dueR n n - dueO n + 1
def dueD : PyData → PyData
  | .int n => .int (dueN n.toNat)
  | _ => .none
def allN (n : Nat) : Bool := decide (effN n = dueN n) && decide ((Builtin.Math.fallingProduct (2 * (n : Int) - 1) n).natAbs < 2 ^ 1000) && decide (((Builtin.Math.factorialNat n : Nat) : Int).natAbs < 2 ^ 1000) && (PyData.int (effN n)).showable && decide ((PyData.int (effN n)).shown.length ≤ 1000)
theorem all_ok : ∀ n ∈ List.range 60, allN (n + 1) = true := by decide +kernel
theorem log_ok {n : Nat} (h : n < 2 ^ 1000) : n.log2 < bitsLine := by
  by_cases h0 : n = 0
  · subst h0
    rw [Nat.log2_zero]
    exact Nat.two_pow_pos 27
  · have := (Nat.log2_lt h0).mpr h
    have : bitsLine = 134217728 := by rfl
    omega
structure Small (n : Nat) : Prop where
  eq : effN n = dueN n
  fp : (Builtin.Math.fallingProduct (2 * (n : Int) - 1) n).natAbs.log2 < bitsLine
  fc : ((Builtin.Math.factorialNat n : Nat) : Int).natAbs.log2 < bitsLine
  sh : (PyData.int (effN n)).showable = true
  ln : (PyData.int (effN n)).shown.length ≤ 1000
theorem small {n : Nat} (h0 : 1 ≤ n) (h1 : n ≤ 60) : Small n := by
  have h := all_ok (n - 1) (List.mem_range.mpr (by omega))
  rw [show n - 1 + 1 = n by omega] at h
  simp only [allN, Bool.and_eq_true, decide_eq_true_eq] at h
  exact ⟨h.1.1.1.1, log_ok h.1.1.1.2, log_ok h.1.1.2, h.1.2, h.2⟩
def withinD : List PyData → Bool
  | [.int a, .int b, .int c] => decide (b ≤ a) && decide (a ≤ c)
  | _ => false
section
variable {P : Program} {w : World} {K : PySem.W.Frag} {mg : PySem.Str → Option Value} {base : Heap}
theorem ok_is_within (D : Df K mg "is_within" s_is_within ["value", "least", "most"]) (z_isinstance : mg "isinstance" = none) (z_int : mg "int" = none) (z_bool : mg "bool" = none) :
    Cl P w K mg base CX0 1 "is_within" ["value", "least", "most"] (Pf K (fun ds => ∃ a b c : Int, ds = [.int a, .int b, .int c]) fun ds => .bool (withinD ds)) := by
  refine Cl.pu D sc_is_within (fun ds h => by obtain ⟨a, b, c, rfl⟩ := h; rfl) fun f cdv A outer s H vs Q E B ds hr e hq hp k => ?_
  obtain ⟨a, b, c, rfl⟩ := hp
  obtain ⟨v1, v2, v3, rfl, h1, h2, h3⟩ := dq3 hq
  refine ⟨_, (pss_one (ps_ret (pe_and (pe_callB call_isi (by rfl) z_isinstance (by decide +kernel) (pa_cons (pv 0) (pa_cons (pe_bltn (v := .ty "int") (by rfl) z_int (by decide +kernel) rfl) pa_nil))) (pe_and (pe_not (pe_callB call_isi (by rfl) z_isinstance (by decide +kernel) (pa_cons (pv 0) (pa_cons (pe_bltn (v := .ty "bool") (by rfl) z_bool (by decide +kernel) rfl) pa_nil)))) (pe_one (pe_chain op_le op_le (pv 1) (pv 0) (pv 2))))))), ?_⟩
  refine s_ret (K := K) (d := .bool (withinD [.int a, .int b, .int c])) ?_ e fun v B' H' l hv => k _ rfl v B' H' l hv
  have x0 : Ev K (tVar 0) (L2.start N_is_within [v1, v2, v3]) B H (.int a) := ev_var rfl h1
  have e1 : withinD [.int a, .int b, .int c] = (isN "int" (.int a) && (!isN "bool" (.int a) && (decide (b ≤ a) && decide (a ≤ c)))) := by
    simp [withinD, isN, isNS, tyN]
  rw [e1]
  refine ev_andV (ev_isi x0 (by decide)) fun h1' => ev_andV (ev_notV (ev_isi x0 (by decide))) fun h2' => ?_
  exact ev_chain (ev_var rfl h2) x0 (fun _ => ev_var rfl h3) (rv_cmp (g := fun a b => decide (a ≤ b))) fun _ => rv_cmp (g := fun a b => decide (a ≤ b))
theorem ok_count_effects (D : Df K mg "count_effects" s_count_effects ["size"]) (C_is_within : Cl P w K mg base CX0 1 "is_within" ["value", "least", "most"] (Pf K (fun ds => ∃ a b c : Int, ds = [.int a, .int b, .int c]) fun ds => .bool (withinD ds)))
    {t60 : Tok} (g_MOST_ITEMS : mg "MOST_ITEMS" = some (.int 60 t60)) (g_perm : mg "perm" = some (.builtin "math.perm")) (g_factorial : mg "factorial" = some (.builtin "math.factorial")) :
    Cl P w K mg base CX0 2 "count_effects" ["size"] (Pf1 K (fun d => ∃ n : Int, d = .int n ∧ 1 ≤ n ∧ n ≤ 60) effD) := by
  refine Cl.pu1 D sc_count_effects fun f cdv A outer s H v Q E B d hr e hv hp k => ?_
  obtain ⟨n, rfl, n0, n1⟩ := hp
  have hu := hr.units0
  refine ⟨_, (pss_cons (ps_if (pt_not (pt_val (pe_callC C_is_within (hr.mono (by decide)) (by rfl) pass0 (pa_cons (pv 0) (pa_cons pe_int (pa_cons (pe_glob (v := .int (60)) (by rfl) g_MOST_ITEMS ⟨_, rfl⟩) pa_nil)))))) (pss_one (ps_never)) pss_nil) (pss_one (ps_ret (pe_op op_addA (pe_op op_sub (pe_callBfun cr_perm (by rfl) g_perm (pa_cons (pe_op op_sub (pe_op op_mulA pe_int (pv 0)) pe_int) (pa_cons (pv 0) pa_nil))) (pe_callBfun cr_fac (by rfl) g_factorial (pa_cons (pv 0) pa_nil))) pe_int)))), ?_⟩
  have sm := small (n := n.toNat) (by omega) (by omega)
  have en : ((n.toNat : Nat) : Int) = n := by omega
  refine q_when (k := !withinD [.int n, .int 1, .int 60]) (et_not (et_B (ev_call (f := fun ds => .bool (withinD ds)) (ea_cons (ev_var rfl hv) (ea_cons ev_i (ea_cons ev_i ea_nil))) ⟨n, 1, 60, rfl⟩))) e (fun h => ?_) fun h B1 H1 l1 => ?_
  · have : withinD [.int n, .int 1, .int 60] = true := by simp [withinD]; omega
    rw [this] at h
    cases h
  refine s_ret (K := K) (d := effD (.int n)) ?_ l1.h fun v B' H' l hv => k v B' H' (l1.trans l) hv
  have x0 : ∀ {B H : Hp}, Dq K B v (.int n) → Ev K (tVar 0) (L2.start N_count_effects [v]) B H (.int n) := fun h => ev_var rfl h
  have hv1 := hv.mono l1.b
  have pp := sm.fp
  rw [en] at pp
  have p1 : Ev K (tCB rPerm (tCons (tOp (rI0 fun i j => .int (i - j)) (tOp (rMulA K) (tC (.int 2)) (tVar 0)) (tC (.int 1))) (tCons (tVar 0) tNil))) (L2.start N_count_effects [v]) B1 H1 (.int (Builtin.Math.fallingProduct (2 * n - 1) n.toNat)) :=
    ev_cb (ea_cons (ev_op (ev_op ev_i (x0 hv1) (rv_mulI (.inl ⟨by decide, by decide⟩))) ev_i rv_int0) (ea_cons (x0 hv1) ea_nil)) (rc_perm ⟨by omega, by omega, by omega, pp⟩)
  have p2 : Ev K (tCB rFac (tCons (tVar 0) tNil)) (L2.start N_count_effects [v]) B1 H1 (.int ((Builtin.Math.factorialNat n.toNat : Nat) : Int)) := ev_cb (ea_cons (x0 hv1) ea_nil) (rc_fac ⟨by omega, by omega, sm.fc⟩)
  have p3 := ev_op (ev_op p1 p2 (rv_int0 (g := fun i j => i - j))) (ev_i (i := 1)) rv_addI
  have e2 : effD (.int n) = .int (Builtin.Math.fallingProduct (2 * n - 1) n.toNat - ((Builtin.Math.factorialNat n.toNat : Nat) : Int) + 1) := by
    show PyData.int (Builtin.Math.fallingProduct (2 * ((n.toNat : Nat) : Int) - 1) n.toNat - ((Builtin.Math.factorialNat n.toNat : Nat) : Int) + 1) = _
    rw [en]
  rw [e2]
  exact p3
/-! the law's own count -/
theorem ok_law_due (D : Df K mg "_law_due" s__law_due ["size_here"]) (z_range : mg "range" = none) :
    Cl P w K mg base CX0 1 "_law_due" ["size_here"] (Pf1 K (fun d => ∃ n : Int, d = .int n ∧ 1 ≤ n ∧ n ≤ 60) dueD) := by
  refine Cl.pu1 D sc__law_due fun f cdv A outer s H v Q E B d hr e hv hp k => ?_
  obtain ⟨n, rfl, n0, n1⟩ := hp
  cases hv
  have hu := hr.units0
  have en : ((n.toNat : Nat) : Int) = n := by omega
  refine ⟨_, (pss_cons (ps_asg (pe_tup (pa_cons pe_int (pa_cons pe_int pa_nil))) (pg_tup rfl (pgs_cons (pg_name (i := 1) sc__law_due.nd rfl (.inl rfl)) (pgs_cons (pg_name (i := 2) sc__law_due.nd rfl (.inl rfl)) pgs_nil)))) (pss_cons (ps_for PassesOwn.never rfl (pi_range1 (by rfl) z_range (pa_cons (pv 0) pa_nil)) (pg_name (i := 3) sc__law_due.nd rfl (.inl rfl)) (pss_cons (ps_set (i := 1) sc__law_due.nd rfl (.inl rfl) (pe_op op_mulA (pv 1) (pe_op op_addA (pv 0) (pv 3)))) (pss_one (ps_set (i := 2) sc__law_due.nd rfl (.inl rfl) (pe_op op_mulA (pv 2) (pe_op op_addA (pv 3) pe_int)))))) (pss_one (ps_ret (pe_op op_addA (pe_op op_sub (pv 1) (pv 2)) pe_int))))), ?_⟩
  refine q_asg2 (K := K) (a := .int 1) (b := .int 1) (ev_tup (ea_cons ev_i (ea_cons ev_i ea_nil)) (size_ok (by show 2 ≤ 100000; decide))) e fun x y B0 H0 l0 hx hy => ?_
  cases hx
  cases hy
  refine q_forN (K := K) (n := n) (ea_cons (ev_var rfl (.int n)) ea_nil) (by omega) (by omega) l0.h (fun i σ' B' => ∃ o, σ' = [some (.int n), some (.int (dueR n.toNat i)), some (.int (dueO i)), o]) (fun B1 H1 l => ⟨_, rfl⟩) ?_ ?_
  · rintro i σ' B' H' N hi l ⟨o, rfl⟩ hN
    refine q_set (K := K) (d := .int (dueR n.toNat (i + 1))) ?_ l.h fun v2 B2 H2 l2 hv2 => ?_
    · have e1 : dueR n.toNat (i + 1) = dueR n.toNat i * (n + (0 + (i : Nat))) := by
        show dueR n.toNat i * (((n.toNat : Nat) : Int) + (i : Int)) = _
        rw [en, Int.zero_add]
      rw [e1]
      exact ev_op (ev_var rfl (.int _)) (ev_op (ev_var rfl (.int n)) (ev_var rfl (.int _)) rv_addI) (rv_mulI (.inr ⟨by omega, by omega⟩))
    · cases hv2
      refine s_set (K := K) (d := .int (dueO (i + 1))) ?_ l2.h fun v3 B3 H3 l3 hv3 => ?_
      · have e1 : dueO (i + 1) = dueO i * ((0 + (i : Nat)) + 1) := by
          show dueO i * ((i : Int) + 1) = _
          rw [Int.zero_add]
        rw [e1]
        exact ev_op (ev_var rfl (.int _)) (ev_op (ev_var rfl (.int _)) ev_i rv_addI) (rv_mulI (.inr ⟨by omega, by omega⟩))
      · cases hv3
        exact hN _ B3 H3 (l2.trans l3) ⟨_, rfl⟩
  · rintro σ' B' H' l ⟨o, rfl⟩
    refine s_ret (K := K) (d := .int (dueR n.toNat n.toNat - dueO n.toNat + 1)) ?_ l.h fun v2 B2 H2 l2 hv2 => k v2 B2 H2 (l0.trans (l.trans l2)) hv2
    exact ev_op (ev_op (ev_var rfl (.int _)) (ev_var rfl (.int _)) rv_int0) ev_i rv_addI
/-! a number of the script's -/
def JugS (K : PySem.W.Frag) : Sp := fun vs H Q _ => ∃ a ns k, vs = [.ref a, .int k] ∧ SqL K H a ((ns : List Int).map V.int) ∧ (0 ≤ k ∧ k < 64) ∧ ∀ p x y, H p = none → (0 ≤ y ∧ y < 2 ^ 160) → Q (.ref p) (upd H p (.lst [.int x, .int y, .int 0]))
def DropS : Sp := fun vs H Q _ => ∃ g n x y, vs = [.ref g, .int n] ∧ (0 < n ∧ n < 1000) ∧ H g = some (.lst [.int x, .int y, .int 0]) ∧ (0 ≤ y ∧ y < 2 ^ 160) ∧ ∀ r x' z, (0 ≤ r ∧ r < n) → Q (.int r) (upd H g (.lst [.int x', .int y, .int z]))
end
end K35

set_option maxRecDepth 100000
set_option maxHeartbeats 4000000
namespace K35
open PySem PySem.Spec PyProof.Rows L2 MA
section
variable {P : Program} {w : World} {K : PySem.W.Frag} {mg : PySem.Str → Option Value} {base : Heap}
theorem at_nat {ns : List Int} {k : Int} (h0 : 0 ≤ k) (h1 : k < ns.length) : atI (ns.map V.int) k = some (.int (ns.getD k.toNat 0)) := by
  unfold atI ixN
  rw [List.length_map, if_pos h0, if_pos (by omega)]
  have h2 : k.toNat < ns.length := by omega
  simp [List.getD, h2]
theorem ok_law_jug (D : Df K mg "_law_jug" s__law_jug ["script", "k"]) (z_max : mg "max" = none) (z_len : mg "len" = none) : Cl P w K mg base CX0 1 "_law_jug" ["script", "k"] (JugS K) :=
  Cl.of D sc__law_jug (fun vs H Q E h => by obtain ⟨a, ns, k, rfl, _⟩ := h; rfl) fun f cdv A outer s H vs Q E hr h => by
    obtain ⟨a, ns, k, rfl, hs, ⟨k0, k1⟩, q⟩ := h
    refine ⟨_, (pss_cons (ps_set (i := 2) sc__law_jug.nd rfl (.inl rfl) (pe_ifExp (pt_cmpR op_lt (pv 1) (pe_callB call_len_seq (by rfl) z_len PySem.boot_len (pa_cons (pv 0) pa_nil)) (nomark _)) (pe_ix ix_seq (pv 0) (pv 1) (fun _ _ => rfl)) pe_int)) (pss_one (ps_ret (pe_lst (pa_cons (pe_callB (call_max2 rfl) (by rfl) z_max (by decide +kernel) (pa_cons pe_int (pa_cons (pe_op op_sub (pv 2) (pe_op op_powW pe_int pe_int)) pa_nil))) (pa_cons (pe_op op_addA (pe_op op_mulA (pe_op op_mod (pv 2) (pe_op op_addA (pe_op op_powW pe_int pe_int) pe_int)) pe_int) (pv 1)) (pa_cons pe_int pa_nil))))))), ?_⟩
    refine ⟨.int k, rfl, .ref a, rfl, a, _, rfl, .inl hs, k, _, rfl, rfl, _, rfl, ?_⟩
    have p42 : (0 : Int) < 10 ^ (42 : Int).toNat + 63 := by decide
    have cont : ∀ c : Int, tRet (tLst (tCons (tCB rMax2 (tCons (tC (.int 0)) (tCons (tOp (rI0 fun i j => .int (i - j)) (tVar 2) (tOp (rI CPowW fun i j => .int (i ^ j.toNat)) (tC (.int 10)) (tC (.int 18)))) tNil)))
        (tCons (tOp (rAddA K) (tOp (rMulA K) (tOp (rI (fun _ j => 0 < j) fun i j => .int (i % j)) (tVar 2) (tOp (rAddA K) (tOp (rI CPowW fun i j => .int (i ^ j.toNat)) (tC (.int 10)) (tC (.int 42))) (tC (.int 63)))) (tC (.int 64))) (tVar 1)) (tCons (tC (.int 0)) tNil))))
        { nx := fun _ H' => Q .non H', rt := Q } [some (.ref a), some (.int k), some (.int c)] H := fun c => by
      have b0 := Int.emod_nonneg c (show (10 : Int) ^ (42 : Int).toNat + 63 ≠ 0 by omega)
      have b1 := Int.emod_lt_of_pos c p42
      have b2 : (10 : Int) ^ (42 : Int).toNat + 63 < 2 ^ 150 := by decide
      refine ⟨.int c, rfl, 10, 18, rfl, rfl, cpow (k := 4) (by decide) (by decide) (by decide), c, _, rfl, rfl, 0, _, rfl, ?_⟩
      refine ⟨.int c, rfl, 10, 42, rfl, rfl, cpow (k := 4) (by decide) (by decide) (by decide), .inl ⟨_, 63, rfl, rfl, c, _, rfl, rfl, p42, .inl ⟨_, 64, rfl, rfl, .inr ⟨by decide, by decide⟩, .int k, rfl, .inl ⟨_, _, rfl, rfl, by show 3 ≤ sizeLine; exact size_ok (by decide), fun p hp => ?_⟩⟩⟩⟩
      refine q p _ _ hp ⟨by omega, ?_⟩
      generalize c % ((10 : Int) ^ (42 : Int).toNat + 63) = z at *
      have b3 : z < 2 ^ 150 := Int.lt_trans b1 b2
      have b4 : (2 : Int) ^ 150 * 64 + 64 < 2 ^ 160 := by decide
      omega
    refine ite_b (fun h => ?_) fun h => ?_
    · refine ⟨.ref a, rfl, .int k, rfl, .inl ⟨a, _, k, _, rfl, rfl, hs, at_nat k0 (by simpa using h), cont _⟩⟩
    · exact cont 0
theorem ok_law_drop (D : Df K mg "_law_drop" s__law_drop ["jug", "many"]) : Cl P w K mg base CX0 1 "_law_drop" ["jug", "many"] DropS :=
  Cl.of D sc__law_drop (fun vs H Q E h => by obtain ⟨g, n, x, y, rfl, _⟩ := h; rfl) fun f cdv A outer s H vs Q E hr h => by
    obtain ⟨g, n, x, y, rfl, ⟨n0, n1⟩, hg, ⟨y0, y1⟩, q⟩ := h
    refine ⟨_, (pss_cons (ps_if (pt_cmpR op_gt (pe_ix ix_seq (pv 0) pe_int (fun _ _ => rfl)) pe_int (nomark _)) (pss_cons (ps_set (i := 2) sc__law_drop.nd rfl (.inl rfl) (pe_op op_mod (pe_ix ix_seq (pv 0) pe_int (fun _ _ => rfl)) (pv 1))) (pss_cons (ps_asg (pe_op op_fdiv (pe_ix ix_seq (pv 0) pe_int (fun _ _ => rfl)) (pv 1)) (pg_sub (pv 0) pe_int set_list)) (pss_one (ps_ret (pv 2))))) pss_nil) (pss_cons (ps_asg (pe_op op_addA (pe_ix ix_seq (pv 0) pe_int (fun _ _ => rfl)) pe_int) (pg_sub (pv 0) pe_int set_list)) (pss_cons (ps_set (i := 3) sc__law_drop.nd rfl (.inl rfl) (pe_op op_mod (pe_op op_powW (pe_op op_addA (pe_ix ix_seq (pv 0) pe_int (fun _ _ => rfl)) (pe_op op_mulA pe_int (pe_ix ix_seq (pv 0) pe_int (fun _ _ => rfl)))) pe_int) (pe_op op_addA (pe_op op_powW pe_int pe_int) pe_int))) (pss_cons (ps_set (i := 3) sc__law_drop.nd rfl (.inl rfl) (pe_op op_mod (pe_op op_powW (pe_op op_addA (pv 3) (pe_op op_mulA pe_int (pe_ix ix_seq (pv 0) pe_int (fun _ _ => rfl)))) pe_int) (pe_op op_addA (pe_op op_powW pe_int pe_int) pe_int))) (pss_one (ps_ret (pe_op op_mod (pe_op op_fdiv (pv 3) pe_int) (pv 1)))))))), ?_⟩
    refine ⟨.ref g, rfl, ix_own hg (v := .int x) rfl ⟨x, 0, rfl, rfl, decide (0 < x), rfl, ?_⟩⟩
    refine ite_b (fun hx => ?_) fun hx => ?_
    · refine ⟨.ref g, rfl, ix_own hg (v := .int x) rfl ⟨.int n, rfl, x, n, rfl, rfl, n0, ?_⟩⟩
      refine ⟨.ref g, rfl, ix_own hg (v := .int x) rfl ⟨.int n, rfl, x, n, rfl, rfl, ⟨n0, by omega⟩, .ref g, rfl, g, _, 0, 0, rfl, rfl, hg, rfl, ?_⟩⟩
      refine ⟨.int (x % n), rfl, ?_⟩
      exact q (x % n) _ _ ⟨Int.emod_nonneg _ (by omega), Int.emod_lt_of_pos _ n0⟩
    · have hb : ∀ u : Int, 0 ≤ u → u < 2 ^ 200 → CPowW u 3 := fun u h0 h1 => cpow (k := 200) (by omega) (by decide) (by decide)
      have m1 : (0 : Int) < 10 ^ (45 : Int).toNat + 9 := by decide
      have m2 : (0 : Int) < 10 ^ (43 : Int).toNat + 57 := by decide
      have m3 : (10 : Int) ^ (45 : Int).toNat + 9 < 2 ^ 199 := by decide
      have c0 : CMul 122949823 (0 + 1) := .inl ⟨by decide, by decide⟩
      have c1 : CMul 49979687 (0 + 1) := .inl ⟨by decide, by decide⟩
      refine ⟨.ref g, rfl, ix_own hg (v := .int 0) rfl (.inl ⟨0, 1, rfl, rfl, .ref g, rfl, g, _, 2, 2, rfl, rfl, hg, rfl, ?_⟩)⟩
      have hg1 : upd H g (.lst [.int x, .int y, .int (0 + 1)]) g = some (.lst [.int x, .int y, .int (0 + 1)]) := upd_same
      refine ⟨.ref g, rfl, ix_own hg1 (v := .int y) rfl ⟨.ref g, rfl, ix_own hg1 (v := .int (0 + 1)) rfl (.inl ⟨122949823, 0 + 1, rfl, rfl, c0, .inl ⟨y, _, rfl, rfl, _, 3, rfl, rfl, hb _ (by omega) (by omega), ?_⟩⟩)⟩⟩
      refine ⟨10, 45, rfl, rfl, cpow (k := 4) (by decide) (by decide) (by decide), .inl ⟨_, 9, rfl, rfl, _, _, rfl, rfl, m1, ?_⟩⟩
      have e0 := Int.emod_nonneg ((y + 122949823 * (0 + 1)) ^ (3 : Int).toNat) (show (10 : Int) ^ (45 : Int).toNat + 9 ≠ 0 by omega)
      have e1 := Int.emod_lt_of_pos ((y + 122949823 * (0 + 1)) ^ (3 : Int).toNat) m1
      refine ⟨_, rfl, .ref g, rfl, ix_own hg1 (v := .int (0 + 1)) rfl (.inl ⟨49979687, 0 + 1, rfl, rfl, c1, .inl ⟨_, _, rfl, rfl, _, 3, rfl, rfl, hb _ ?_ ?_, ?_⟩⟩)⟩
      · generalize (y + 122949823 * (0 + 1)) ^ (3 : Int).toNat % ((10 : Int) ^ (45 : Int).toNat + 9) = z at *
        omega
      · generalize (y + 122949823 * (0 + 1)) ^ (3 : Int).toNat % ((10 : Int) ^ (45 : Int).toNat + 9) = z at *
        have : z < 2 ^ 199 := Int.lt_trans e1 m3
        omega
      refine ⟨10, 43, rfl, rfl, cpow (k := 4) (by decide) (by decide) (by decide), .inl ⟨_, 57, rfl, rfl, _, _, rfl, rfl, m2, ?_⟩⟩
      refine ⟨_, rfl, _, 327689, rfl, rfl, ⟨by decide, by decide⟩, .int n, rfl, _, n, rfl, rfl, n0, ?_⟩
      exact q _ x _ ⟨Int.emod_nonneg _ (by omega), Int.emod_lt_of_pos _ n0⟩
end
end K35

set_option maxRecDepth 100000
set_option maxHeartbeats 8000000
namespace K35
open PySem PySem.Spec PyProof.Rows L2 MA
def lawS (K : PySem.W.Frag) : Sp := fun vs H Q _ => ∃ a ns, vs = [.ref a] ∧ (ns : List Int).length ≤ 1000 ∧ SqL K H a (ns.map V.int) ∧ ∀ H', Q (.bl true) H'
section
variable {P : Program} {w : World} {K : PySem.W.Frag} {mg : PySem.Str → Option Value} {base : Heap}
theorem gname_go {i : Nat} {v : V} {σ : L2.St} {H : Hp} {F : L2.St → Hp → Prop} (h : F (σ.set i (some v)) H) : gName i v σ H F := h
theorem ok_law {f : Addr} {fd : FuncData} (F : Fun K "law" "law" s_law f fd)
    (C_count_effects : Cl P w K mg base CX0 2 "count_effects" ["size"] (Pf1 K (fun d => ∃ n : Int, d = .int n ∧ 1 ≤ n ∧ n ≤ 60) effD))
    (C__law_due : Cl P w K mg base CX0 1 "_law_due" ["size_here"] (Pf1 K (fun d => ∃ n : Int, d = .int n ∧ 1 ≤ n ∧ n ≤ 60) dueD))
    (C__law_jug : Cl P w K mg base CX0 1 "_law_jug" ["script", "k"] (JugS K)) (C__law_drop : Cl P w K mg base CX0 1 "_law_drop" ["jug", "many"] DropS)
    (z_repr : mg "repr" = none) (z_range : mg "range" = none) (z_max : mg "max" = none) (z_min : mg "min" = none) (z_len : mg "len" = none) : FnG P w K mg base 3 f fd ["script"] (lawS K) :=
  fnG F sc_law fun cdv A outer s H vs Q hg hr h => by
    obtain ⟨a, ns, rfl, hn, hs, q⟩ := h
    have hu := hr.units0
    have hgd : (cxOf CX0 P w K mg base N_law "law" (defScope s_law) f cdv A outer s H E0).nox.A.guards = some [] := hg
    have hu64 : (cxOf CX0 P w K mg base N_law "law" (defScope s_law) f cdv A outer s H E0).nox.A.units + 64 < cLine := hr.units
    refine ⟨_, (pss_cons (ps_for PassesOwn.never rfl (pi_range2 (by rfl) z_range (pa_cons pe_int (pa_cons pe_int pa_nil))) (pg_name (i := 1) sc_law.nd rfl (.inr rfl)) (pss_one (ps_if (pt_cmpR (op_neA hu) (pe_callB (call_repr hgd hu64) (by rfl) z_repr PyProof.Rows.boot_repr (pa_cons (pe_callC C_count_effects (hr.mono (by decide)) (by rfl) pass0 (pa_cons (pv 1) pa_nil)) pa_nil)) (pe_callB (call_repr hgd hu64) (by rfl) z_repr PyProof.Rows.boot_repr (pa_cons (pe_callC C__law_due (hr.mono (by decide)) (by rfl) pass0 (pa_cons (pv 1) pa_nil)) pa_nil)) (nomark _)) (pss_one (ps_ret pe_bl)) pss_nil))) (pss_cons (ps_for PassesOwn.never rfl (pi_range1 (by rfl) z_range (pa_cons (pe_callB (call_max2 rfl) (by rfl) z_max (by decide +kernel) (pa_cons pe_int (pa_cons (pe_callB (call_min2 rfl) (by rfl) z_min (by decide +kernel) (pa_cons pe_int (pa_cons (pe_callB call_len_seq (by rfl) z_len PySem.boot_len (pa_cons (pv 0) pa_nil)) pa_nil))) pa_nil))) pa_nil)) (pg_name (i := 2) sc_law.nd rfl (.inl rfl)) (pss_cons (ps_set (i := 1) sc_law.nd rfl (.inr rfl) (pe_op op_addA pe_int (pe_callC C__law_drop (hr.mono (by decide)) (by rfl) pass0 (pa_cons (pe_callC C__law_jug (hr.mono (by decide)) (by rfl) pass0 (pa_cons (pv 0) (pa_cons (pv 2) pa_nil))) (pa_cons pe_int pa_nil))))) (pss_one (ps_if (pt_cmpR (op_neD hu64) (pe_lc (own := [("again", 3)]) (tt := tYes) (te := (tCall _ [] E0 (tCons (tVar 1) tNil))) rfl sc_law.nd (pi_range1 (by rfl) z_range (pa_cons pe_int pa_nil)) (blkOk_by (N := N_law) (sc := defScope s_law) (by decide +kernel)) (fun _ _ _ _ _ => (pg_name (i := 3) sc_law.nd rfl (.inl rfl))) (fun _ _ _ _ _ => pts_nil) (fun _ _ _ _ _ => (pe_callC C_count_effects (hr.mono (by decide)) (by rfl) pass0 (pa_cons (pv 1) pa_nil)))) (pe_op op_mulA (pe_lst (pa_cons (pe_callC C__law_due (hr.mono (by decide)) (by rfl) pass0 (pa_cons (pv 1) pa_nil)) pa_nil)) pe_int) (nomark _)) (pss_one (ps_ret pe_bl)) pss_nil)))) (pss_one (ps_ret (pe_cmpR (op_eqD hu64) (pe_lc (own := [("size_here", 1)]) (tt := tYes) (te := (tCall _ [] E0 (tCons (tVar 1) tNil))) rfl sc_law.nd (pi_list (pe_lst (pa_cons pe_int (pa_cons pe_int (pa_cons pe_int (pa_cons pe_int pa_nil)))))) (blkOk_by (N := N_law) (sc := defScope s_law) (by decide +kernel)) (fun _ _ _ _ _ => (pg_name (i := 1) sc_law.nd rfl (.inl rfl))) (fun _ _ _ _ _ => pts_nil) (fun _ _ _ _ _ => (pe_callC C_count_effects (hr.mono (by decide)) (by rfl) pass0 (pa_cons (pv 1) pa_nil)))) (pe_lst (pa_cons pe_int (pa_cons pe_int (pa_cons pe_int (pa_cons pe_int pa_nil))))) (nomark _)))))), ?_⟩
    have seen : ∀ {σ : L2.St} {B H : Hp} {te : TE} {n : Int}, 1 ≤ n → n ≤ 60 → Ev K te σ B H (.int (effN n.toNat)) → Ev K (tCB (rRepr K) (tCons te tNil)) σ B H (.str (PyData.int (effN n.toNat)).shown) := fun {σ B H te n} h0 h1 h => by
      have sm := small (n := n.toNat) (by omega) (by omega)
      exact ev_cb (ea_cons h ea_nil) fun B H vs e hvs Q q => by
        obtain ⟨v, rfl, hv⟩ := dq1 hvs
        exact ⟨v, _, rfl, hv.mono e, sm.sh, .inl rfl, size_ok (Nat.le_trans sm.ln (by decide)), by show 0 ≤ 60; decide, q _ B H (Le.refl e) (.str _)⟩
    have eff1 : ∀ {σ : L2.St} {B H : Hp} {i : Nat} {n : Int}, 1 ≤ n → n ≤ 60 → σ[i]? = some (some (.int n)) → Ev K (tCall (Pf1 K (fun d => ∃ n : Int, d = .int n ∧ 1 ≤ n ∧ n ≤ 60) effD) [] E0 (tCons (tVar i) tNil)) σ B H (.int (effN n.toNat)) := fun {σ B H i n} h0 h1 h =>
      ev_call1 (g := effD) (d := .int n) (ev_var h (.int n)) ⟨n, rfl, h0, h1⟩
    have due1 : ∀ {σ : L2.St} {B H : Hp} {i : Nat} {n : Int}, 1 ≤ n → n ≤ 60 → σ[i]? = some (some (.int n)) → Ev K (tCall (Pf1 K (fun d => ∃ n : Int, d = .int n ∧ 1 ≤ n ∧ n ≤ 60) dueD) [] E0 (tCons (tVar i) tNil)) σ B H (.int (effN n.toNat)) := fun {σ B H i n} h0 h1 h => by
      rw [(small (n := n.toNat) (by omega) (by omega)).eq]
      exact ev_call1 (g := dueD) (d := .int n) (ev_var h (.int n)) ⟨n, rfl, h0, h1⟩
    refine q_forN2 (K := K) (m := 1) (n := 61) (ea_cons ev_i (ea_cons ev_i ea_nil)) (by decide) (by decide) (by decide) (Ex.refl H) (fun i σ' B' => ∃ o1 o2 o3, σ' = [some (.ref a), o1, o2, o3]) (fun B1 H1 l => ⟨_, _, _, rfl⟩) ?_ ?_
    · rintro i σ' B H0 N hi l0 ⟨o1, o2, o3, rfl⟩ hN
      have b0 : (1 : Int) ≤ 1 + (i : Nat) := by omega
      have b1 : (1 : Int) + (i : Nat) ≤ 60 := by omega
      refine s_when (k := false) (et_same (K := K) (seen b0 b1 (eff1 b0 b1 rfl)) (seen b0 b1 (due1 b0 b1 rfl))) l0.h (fun z => by cases z) fun _ B1 H1 l1 => ?_
      exact hN _ B1 H1 l1 ⟨_, _, _, rfl⟩
    rintro σ' B H0 l0 ⟨o1, o2, o3, rfl⟩
    have hs0 : SqL K H0 a (ns.map V.int) := Evl.ex_l l0.ex hs
    have lenS : Ev K (tCB (rLenA K) (tCons (tVar 0) tNil)) [some (.ref a), o1, o2, o3] B H0 (.int ns.length) := fun B1 H1 l Q q =>
      ⟨.ref a, rfl, a, _, rfl, .inl (Evl.ex_l l.ex hs0), by rw [List.length_map]; exact q _ B1 H1 (Le.refl l.h) (.int _)⟩
    refine q_forN (K := K) (n := max 1 (min 4 (ns.length : Int))) (ea_cons (ev_cb (ea_cons ev_i (ea_cons (ev_cb (ea_cons ev_i (ea_cons lenS ea_nil)) rc_min) ea_nil)) rc_max) ea_nil) (by omega) (by omega) l0.h (fun i σ' B' => ∃ o1 o2 o3, σ' = [some (.ref a), o1, o2, o3]) (fun B1 H1 l => ⟨_, _, _, rfl⟩) ?_ ?_
    · rintro i σ' B1 H1 N hi l1 ⟨o1, o2, o3, rfl⟩ hN
      have hs1 : SqL K H1 a (ns.map V.int) := Evl.ex_l l1.ex hs0
      -- the number
      refine ⟨.ref a, rfl, .int (0 + (i : Nat)), rfl, a, ns, _, rfl, hs1, ⟨by omega, by omega⟩, fun g x y hp hy => ?_⟩
      refine ⟨g, 60, x, y, rfl, ⟨by decide, by decide⟩, upd_same, hy, fun r x' z hr => .inl ⟨1, r, rfl, rfl, ?_⟩⟩
      have l2 : Le [] B1 H1 B1 (upd (upd H1 g (.lst [.int x, .int y, .int 0])) g (.lst [.int x', .int y, .int z])) :=
        ((Le.made (M := [g]) l1.h hp).trans (Le.put (Le.made (M := [g]) l1.h hp).h (none_of l1.h hp) (by simp))).local hp
      have b0 : (1 : Int) ≤ 1 + r := by omega
      have b1 : 1 + r ≤ 60 := by omega
      refine gname_go ?_
      dsimp only [List.set]
      generalize 1 + r = n at b0 b1 ⊢
      generalize upd (upd H1 g (.lst [.int x, .int y, .int 0])) g (.lst [.int x', .int y, .int z]) = H2 at l2 ⊢
      have c1 : Ev K (tLc (iRng1 (tCons (tC (.int 3)) tNil)) (gName 3) tYes (tCall (Pf1 K (fun d => ∃ n : Int, d = .int n ∧ 1 ≤ n ∧ n ≤ 60) effD) [] E0 (tCons (tVar 1) tNil)) [3]) [some (.ref a), some (.int n), some (.int (0 + (i : Nat))), o3] B1 H2 (.list (([effN n.toNat, effN n.toNat, effN n.toNat] : List Int).map PyData.int)) :=
        ev_lcR (n := 3) (fun _ => true) (fun _ => .int (effN n.toNat)) ev_i (by decide) (fun _ _ _ _ _ => et_yes) (fun _ _ _ _ _ _ => eff1 b0 b1 rfl)
      have c2 : Ev K (tOp (rMulA K) (tLst (tCons (tCall (Pf1 K (fun d => ∃ n : Int, d = .int n ∧ 1 ≤ n ∧ n ≤ 60) dueD) [] E0 (tCons (tVar 1) tNil)) tNil)) (tC (.int 3))) [some (.ref a), some (.int n), some (.int (0 + (i : Nat))), o3] B1 H2 (.list (([effN n.toNat, effN n.toNat, effN n.toNat] : List Int).map PyData.int)) :=
        ev_op (ev_lst (ea_cons (due1 b0 b1 rfl) ea_nil) (size_ok (by show 1 ≤ 100000; decide))) ev_i (rv_mulL (k := 3) (by decide) (by decide) (by show 1 ≤ 100; decide))
      refine s_when (k := false) (by
        have c := et_test (ev_op c1 c2 rv_neLD)
        rw [decide_eq_true rfl] at c
        exact c) l2.h (fun z => by cases z) fun _ B3 H3 l3 => ?_
      exact hN _ B3 H3 (l2.trans l3) ⟨_, _, _, rfl⟩
    rintro σ' B1 H1 l1 ⟨o1, o2, o3, rfl⟩
    have d1 : Ev K (tLst (tCons (tC (.int 1)) (tCons (tC (.int 2)) (tCons (tC (.int 3)) (tCons (tC (.int 4)) tNil))))) [some (.ref a), o1, o2, o3] B1 H1 (.list (([1, 2, 3, 4] : List Int).map PyData.int)) :=
      ev_lst (ea_cons ev_i (ea_cons ev_i (ea_cons ev_i (ea_cons ev_i ea_nil)))) (size_ok (by show 4 ≤ 100000; decide))
    have d2 := ev_compL (K := K) (te := tCall (Pf1 K (fun d => ∃ n : Int, d = .int n ∧ 1 ≤ n ∧ n ≤ 60) effD) [] E0 (tCons (tVar 1) tNil)) (tt := tYes) (j := 1) (vs := [1]) (fun _ => true) effD d1 (by show 4 ≤ 100000; decide) (fun _ _ _ _ _ _ _ => et_yes)
      (fun d v B2 H2 l2 hd hv _ => by
        obtain ⟨n, hn, rfl⟩ := List.mem_map.mp hd
        cases hv
        have : 1 ≤ n ∧ n ≤ 60 := by
          have : ∀ n ∈ ([1, 2, 3, 4] : List Int), 1 ≤ n ∧ n ≤ 60 := by decide
          exact this n hn
        exact eff1 this.1 this.2 rfl)
    have d3 : ((([1, 2, 3, 4] : List Int).map PyData.int).filter fun _ => true).map effD = ([1, 5, 55, 817] : List Int).map PyData.int := by rfl
    rw [d3] at d2
    refine s_ret (K := K) (d := .bool true) ?_ l1.h fun v B' H' l2 hv => ?_
    · have c := ev_op d2 (ev_lst (K := K) (ea_cons (ev_i (i := 1)) (ea_cons (ev_i (i := 5)) (ea_cons (ev_i (i := 55)) (ea_cons (ev_i (i := 817)) ea_nil)))) (size_ok (by show 4 ≤ 100000; decide))) (rv_eqLD (as := [1, 5, 55, 817]) (bs := [1, 5, 55, 817]))
      rw [decide_eq_true rfl] at c
      exact c
    · cases hv
      exact q H'
end
end K35

set_option maxRecDepth 100000
set_option maxHeartbeats 8000000
namespace K35
open PySem PySem.Spec PyProof.Rows L2 MA
theorem df_is_within {K : PySem.W.Frag} {mg : PySem.Str → Option Value} {f : Addr} {fd : FuncData} (F : Fun K "is_within" "is_within" s_is_within f fd) (h : mg "is_within" = some (.ref f)) : Df K mg "is_within" s_is_within ["value", "least", "most"] := ⟨f, fd, F, h, F.binds (ps := ["value", "least", "most"]) fun _ _ _ _ _ _ us hl => match us, hl with | [_, _, _], _ => rfl⟩
theorem df_count_effects {K : PySem.W.Frag} {mg : PySem.Str → Option Value} {f : Addr} {fd : FuncData} (F : Fun K "count_effects" "count_effects" s_count_effects f fd) (h : mg "count_effects" = some (.ref f)) : Df K mg "count_effects" s_count_effects ["size"] := ⟨f, fd, F, h, F.binds (ps := ["size"]) fun _ _ _ _ _ _ us hl => match us, hl with | [_], _ => rfl⟩
theorem df__law_jug {K : PySem.W.Frag} {mg : PySem.Str → Option Value} {f : Addr} {fd : FuncData} (F : Fun K "_law_jug" "_law_jug" s__law_jug f fd) (h : mg "_law_jug" = some (.ref f)) : Df K mg "_law_jug" s__law_jug ["script", "k"] := ⟨f, fd, F, h, F.binds (ps := ["script", "k"]) fun _ _ _ _ _ _ us hl => match us, hl with | [_, _], _ => rfl⟩
theorem df__law_drop {K : PySem.W.Frag} {mg : PySem.Str → Option Value} {f : Addr} {fd : FuncData} (F : Fun K "_law_drop" "_law_drop" s__law_drop f fd) (h : mg "_law_drop" = some (.ref f)) : Df K mg "_law_drop" s__law_drop ["jug", "many"] := ⟨f, fd, F, h, F.binds (ps := ["jug", "many"]) fun _ _ _ _ _ _ us hl => match us, hl with | [_, _], _ => rfl⟩
theorem df__law_due {K : PySem.W.Frag} {mg : PySem.Str → Option Value} {f : Addr} {fd : FuncData} (F : Fun K "_law_due" "_law_due" s__law_due f fd) (h : mg "_law_due" = some (.ref f)) : Df K mg "_law_due" s__law_due ["size_here"] := ⟨f, fd, F, h, F.binds (ps := ["size_here"]) fun _ _ _ _ _ _ us hl => match us, hl with | [_], _ => rfl⟩
set_option maxHeartbeats 0 in
theorem all_mk {P : Program} {w : World} {K : PySem.W.Frag} {h : Heap} {mg : PySem.Str → Option Value} {fa : Addr} (X : K.In h) (G : h.Ns mainGlobals mg) (hfa : mg "law" = some (.ref fa))
    {f_is_within : Addr} {od_is_within an_is_within : Option Addr} {sl_is_within : Array (Option Value)} {oc_is_within kV_is_within dc_is_within pm_is_within cd_is_within ct_is_within : Value}
    (a_is_within : PySem.W.nsIn K mainGlobals "is_within" = some (some (.ref f_is_within))) (l_is_within : K.lookup f_is_within = some ⟨oc_is_within, od_is_within, .func (PySem.W.fnOf "is_within" "is_within" (defArgs s_is_within) (defBody s_is_within) (defScope s_is_within) .none kV_is_within dc_is_within pm_is_within an_is_within cd_is_within ct_is_within), sl_is_within⟩) (c_is_within : PySem.W.codeIn K cd_is_within "is_within" = true) (k_is_within : PySem.W.keepIn K (.ref f_is_within) = true)
    {f_count_effects : Addr} {od_count_effects an_count_effects : Option Addr} {sl_count_effects : Array (Option Value)} {oc_count_effects kV_count_effects dc_count_effects pm_count_effects cd_count_effects ct_count_effects : Value}
    (a_count_effects : PySem.W.nsIn K mainGlobals "count_effects" = some (some (.ref f_count_effects))) (l_count_effects : K.lookup f_count_effects = some ⟨oc_count_effects, od_count_effects, .func (PySem.W.fnOf "count_effects" "count_effects" (defArgs s_count_effects) (defBody s_count_effects) (defScope s_count_effects) .none kV_count_effects dc_count_effects pm_count_effects an_count_effects cd_count_effects ct_count_effects), sl_count_effects⟩) (c_count_effects : PySem.W.codeIn K cd_count_effects "count_effects" = true) (k_count_effects : PySem.W.keepIn K (.ref f_count_effects) = true)
    {f__law_jug : Addr} {od__law_jug an__law_jug : Option Addr} {sl__law_jug : Array (Option Value)} {oc__law_jug kV__law_jug dc__law_jug pm__law_jug cd__law_jug ct__law_jug : Value}
    (a__law_jug : PySem.W.nsIn K mainGlobals "_law_jug" = some (some (.ref f__law_jug))) (l__law_jug : K.lookup f__law_jug = some ⟨oc__law_jug, od__law_jug, .func (PySem.W.fnOf "_law_jug" "_law_jug" (defArgs s__law_jug) (defBody s__law_jug) (defScope s__law_jug) .none kV__law_jug dc__law_jug pm__law_jug an__law_jug cd__law_jug ct__law_jug), sl__law_jug⟩) (c__law_jug : PySem.W.codeIn K cd__law_jug "_law_jug" = true) (k__law_jug : PySem.W.keepIn K (.ref f__law_jug) = true)
    {f__law_drop : Addr} {od__law_drop an__law_drop : Option Addr} {sl__law_drop : Array (Option Value)} {oc__law_drop kV__law_drop dc__law_drop pm__law_drop cd__law_drop ct__law_drop : Value}
    (a__law_drop : PySem.W.nsIn K mainGlobals "_law_drop" = some (some (.ref f__law_drop))) (l__law_drop : K.lookup f__law_drop = some ⟨oc__law_drop, od__law_drop, .func (PySem.W.fnOf "_law_drop" "_law_drop" (defArgs s__law_drop) (defBody s__law_drop) (defScope s__law_drop) .none kV__law_drop dc__law_drop pm__law_drop an__law_drop cd__law_drop ct__law_drop), sl__law_drop⟩) (c__law_drop : PySem.W.codeIn K cd__law_drop "_law_drop" = true) (k__law_drop : PySem.W.keepIn K (.ref f__law_drop) = true)
    {f__law_due : Addr} {od__law_due an__law_due : Option Addr} {sl__law_due : Array (Option Value)} {oc__law_due kV__law_due dc__law_due pm__law_due cd__law_due ct__law_due : Value}
    (a__law_due : PySem.W.nsIn K mainGlobals "_law_due" = some (some (.ref f__law_due))) (l__law_due : K.lookup f__law_due = some ⟨oc__law_due, od__law_due, .func (PySem.W.fnOf "_law_due" "_law_due" (defArgs s__law_due) (defBody s__law_due) (defScope s__law_due) .none kV__law_due dc__law_due pm__law_due an__law_due cd__law_due ct__law_due), sl__law_due⟩) (c__law_due : PySem.W.codeIn K cd__law_due "_law_due" = true) (k__law_due : PySem.W.keepIn K (.ref f__law_due) = true)
    {f_law : Addr} {od_law an_law : Option Addr} {sl_law : Array (Option Value)} {oc_law kV_law dc_law pm_law cd_law ct_law : Value}
    (a_law : PySem.W.nsIn K mainGlobals "law" = some (some (.ref f_law))) (l_law : K.lookup f_law = some ⟨oc_law, od_law, .func (PySem.W.fnOf "law" "law" (defArgs s_law) (defBody s_law) (defScope s_law) .none kV_law dc_law pm_law an_law cd_law ct_law), sl_law⟩) (c_law : PySem.W.codeIn K cd_law "law" = true) (k_law : PySem.W.keepIn K (.ref f_law) = true)
    {t_MOST_ITEMS : Tok} (a_MOST_ITEMS : PySem.W.nsIn K mainGlobals "MOST_ITEMS" = some (some (.int 60 t_MOST_ITEMS)))
    (a_perm : PySem.W.nsIn K mainGlobals "perm" = some (some (.builtin "math.perm")))
    (a_factorial : PySem.W.nsIn K mainGlobals "factorial" = some (some (.builtin "math.factorial")))
    (z_isinstance : PySem.W.nsIn K mainGlobals "isinstance" = some none)
    (z_int : PySem.W.nsIn K mainGlobals "int" = some none)
    (z_bool : PySem.W.nsIn K mainGlobals "bool" = some none)
    (z_max : PySem.W.nsIn K mainGlobals "max" = some none)
    (z_min : PySem.W.nsIn K mainGlobals "min" = some none)
    (z_len : PySem.W.nsIn K mainGlobals "len" = some none)
    (z_range : PySem.W.nsIn K mainGlobals "range" = some none)
    (z_repr : PySem.W.nsIn K mainGlobals "repr" = some none) :
    ∃ fd : FuncData, (∀ (s : Shared) (v : Value), BindsTo s fd ⟨[v], []⟩ [("script", v)]) ∧ ∀ base : Heap, K.In base → base.Ns mainGlobals mg → FnG P w K mg base 3 fa fd ["script"] (lawS K) := by
  have e := hfa.symm.trans (PySem.W.mg_of X G a_law)
  cases e
  have F_is_within := fun_mk (st := s_is_within) l_is_within c_is_within k_is_within
  have D_is_within := df_is_within F_is_within (PySem.W.mg_of X G a_is_within)
  have F_count_effects := fun_mk (st := s_count_effects) l_count_effects c_count_effects k_count_effects
  have D_count_effects := df_count_effects F_count_effects (PySem.W.mg_of X G a_count_effects)
  have F__law_jug := fun_mk (st := s__law_jug) l__law_jug c__law_jug k__law_jug
  have D__law_jug := df__law_jug F__law_jug (PySem.W.mg_of X G a__law_jug)
  have F__law_drop := fun_mk (st := s__law_drop) l__law_drop c__law_drop k__law_drop
  have D__law_drop := df__law_drop F__law_drop (PySem.W.mg_of X G a__law_drop)
  have F__law_due := fun_mk (st := s__law_due) l__law_due c__law_due k__law_due
  have D__law_due := df__law_due F__law_due (PySem.W.mg_of X G a__law_due)
  have F_law := fun_mk (st := s_law) l_law c_law k_law
  have y_isinstance := PySem.W.mg_none_of X G z_isinstance
  have y_int := PySem.W.mg_none_of X G z_int
  have y_bool := PySem.W.mg_none_of X G z_bool
  have y_max := PySem.W.mg_none_of X G z_max
  have y_min := PySem.W.mg_none_of X G z_min
  have y_len := PySem.W.mg_none_of X G z_len
  have y_range := PySem.W.mg_none_of X G z_range
  have y_repr := PySem.W.mg_none_of X G z_repr
  have g_MOST_ITEMS := PySem.W.mg_of X G a_MOST_ITEMS
  have g_perm := PySem.W.mg_of X G a_perm
  have g_factorial := PySem.W.mg_of X G a_factorial
  refine ⟨PySem.W.fnOf "law" "law" (defArgs s_law) (defBody s_law) (defScope s_law) .none kV_law dc_law pm_law an_law cd_law ct_law, fun s v => .of_eq rfl, fun base _ _ => ?_⟩
  have C_w := ok_is_within (base := base) (P := P) (w := w) D_is_within y_isinstance y_int y_bool
  have C_c := ok_count_effects D_count_effects C_w g_MOST_ITEMS g_perm g_factorial
  have C_d := ok_law_due (P := P) (w := w) (base := base) D__law_due y_range
  have C_j := ok_law_jug (P := P) (w := w) (base := base) D__law_jug y_max y_len
  have C_p := ok_law_drop (P := P) (w := w) (base := base) D__law_drop
  exact ok_law F_law C_c C_d C_j C_p y_repr y_range y_max y_min y_len
end K35
open PySem PySem.W PyProof.Rows
set_option maxHeartbeats 0 in
theorem PySem.Challenge.cw_moveafter_k35_effects_counted_holds : PySem.Challenge.rw_moveafter_k35_effects_counted.Holds := by
  w_on; o_law; k_head; (case hw => w_witness2)
  k_fill
  refine MA.walk_ofG (l := PySem.Challenge.rw_moveafter_k35_effects_counted) (n := 63) (k := 3) (x := "script") (sp := fun w => K35.lawS _) rfl (by decide) rfl ⟨rfl, by decide, by decide⟩ (fun w h Y => PySem.W.kIn_of Y) ?F (fun _ _ a ns hl _ hS => ⟨a, ns, rfl, Nat.le_trans hl (by decide), hS, fun _ => rfl⟩)
  case F =>
    intro w mg fa h KX G hmg
    refine' K35.all_mk KX G hmg ?a_is_within ?l_is_within ?c_is_within ?k_is_within ?a_count_effects ?l_count_effects ?c_count_effects ?k_count_effects ?a__law_jug ?l__law_jug ?c__law_jug ?k__law_jug ?a__law_drop ?l__law_drop ?c__law_drop ?k__law_drop ?a__law_due ?l__law_due ?c__law_due ?k__law_due ?a_law ?l_law ?c_law ?k_law ?a_MOST_ITEMS ?a_perm ?a_factorial ?z_isinstance ?z_int ?z_bool ?z_max ?z_min ?z_len ?z_range ?z_repr
    (case a_is_within => k_is)
    (case l_is_within => k_is)
    (case c_is_within => k_is)
    (case k_is_within => k_is)
    (case a_count_effects => k_is)
    (case l_count_effects => k_is)
    (case c_count_effects => k_is)
    (case k_count_effects => k_is)
    (case a__law_jug => k_is)
    (case l__law_jug => k_is)
    (case c__law_jug => k_is)
    (case k__law_jug => k_is)
    (case a__law_drop => k_is)
    (case l__law_drop => k_is)
    (case c__law_drop => k_is)
    (case k__law_drop => k_is)
    (case a__law_due => k_is)
    (case l__law_due => k_is)
    (case c__law_due => k_is)
    (case k__law_due => k_is)
    (case a_law => k_is)
    (case l_law => k_is)
    (case c_law => k_is)
    (case k_law => k_is)
    (case a_MOST_ITEMS => k_is)
    (case a_perm => k_is)
    (case a_factorial => k_is)
    (case z_isinstance => k_is)
    (case z_int => k_is)
    (case z_bool => k_is)
    (case z_max => k_is)
    (case z_min => k_is)
    (case z_len => k_is)
    (case z_range => k_is)
    (case z_repr => k_is)

