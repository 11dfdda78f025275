import PyProof.Rows.All
import Wide.All
import OpenK.AllK
import Wide.FinOn
import HandS.ForMost
import HandS.ForExc
import HandS.Evl
import HandS.IsInst
import HandS.EndBits
import HandS.Conv
import HandS.Flow
import HandS.Style
import HandS.RaiseMore
import HandS.TupAny
import HandS.TupMul
import HandS.Strs
import HandS.SetBool
import HandS.Walk
import KE.KRevSl
import PyProof.EnumMake
import PyProof.Draws
import HandS.Zip0
import HandS.SetFor
import PySem.Challenge.RW_moveafter_k34_effects_judged
import HandS.SortInts
import PyProof.ReprLen
import PyProof.Rows.ReprOcc
import HandS.DictComp
import KE.KMathG
import HandS.Gcd
import HandS.Small
import PyProof.SumWalkG
import PyProof.WalkInts
import HandS.ExcValue
import HandS.Finally
import HandS.Wide
import HandS.WideBits
import HandS.More
import HandS.MakeKwOnly
import HandS.Defaults
import KE.KSortTupG
import HandS.TupSets
import KE.KMathGC
import HandS.Deep
import HandS.Sort
import KE.KDictList
import PyProof.TupleOfSeq
import PyProof.AutoSeq1
import KE.KDictZip
import KE.KDictItemsList
import HandS.ListItems
set_option Elab.async false
set_option linter.all false
set_option maxRecDepth 100000
set_option maxHeartbeats 2000000
namespace MA
open PySem PySem.Spec PyProof.Rows L2

/-! ## plain data in the abstract heap -/
def kD : Key → PyData
  | .inl i => .int i
  | .inr x => .str x
def zipK : List (Key × V) → List PyData → List (PyData × PyData)
  | (k, _) :: r, d :: ds => (kD k, d) :: zipK r ds
  | _, _ => []
mutual
inductive Dq (K : PySem.W.Frag) (H : Hp) : V → PyData → Prop
  | non : Dq K H .non .none
  | bl (b : Bool) : Dq K H (.bl b) (.bool b)
  | int (i : Int) : Dq K H (.int i) (.int i)
  | str (x : Str) : Dq K H (.str x) (.str x)
  | lst {a : Addr} {xs : List V} {ds : List PyData} (h : H a = some (.lst xs)) (q : DqAll K H xs ds) : Dq K H (.ref a) (.list ds)
  | tup {a : Addr} {xs : List V} {ds : List PyData} (h : SqT K H a xs) (q : DqAll K H xs ds) : Dq K H (.ref a) (.tuple ds)
  | dct {a : Addr} {kvs : List (Key × V)} {ds : List PyData} (h : H a = some (.dK kvs)) (q : DqAll K H (kvs.map (·.2)) ds) : Dq K H (.ref a) (.dict (zipK kvs ds))
inductive DqAll (K : PySem.W.Frag) (H : Hp) : List V → List PyData → Prop
  | nil : DqAll K H [] []
  | cons {v : V} {vs : List V} {d : PyData} {ds : List PyData} (h : Dq K H v d) (q : DqAll K H vs ds) : DqAll K H (v :: vs) (d :: ds)
end
abbrev Ex := Evl.Ex
theorem Ex.refl (H : Hp) : Ex H H := fun _ _ h => h
theorem Ex.trans {H H1 H2 : Hp} (a : Ex H H1) (b : Ex H1 H2) : Ex H H2 := fun x o h => b x o (a x o h)
section
variable {K : PySem.W.Frag} {H H' : Hp}
mutual
theorem Dq.mono (e : Ex H H') : ∀ {v : V} {d : PyData}, Dq K H v d → Dq K H' v d
  | _, _, .non => .non
  | _, _, .bl b => .bl b
  | _, _, .int i => .int i
  | _, _, .str x => .str x
  | _, _, .lst h q => .lst (e _ _ h) (DqAll.mono e q)
  | _, _, .tup h q => .tup (Evl.ex_t e h) (DqAll.mono e q)
  | _, _, .dct h q => .dct (e _ _ h) (DqAll.mono e q)
theorem DqAll.mono (e : Ex H H') : ∀ {vs : List V} {ds : List PyData}, DqAll K H vs ds → DqAll K H' vs ds
  | _, _, .nil => .nil
  | _, _, .cons h q => .cons (Dq.mono e h) (DqAll.mono e q)
end
theorem DqAll.length : ∀ {vs : List V} {ds : List PyData}, DqAll K H vs ds → vs.length = ds.length
  | _, _, .nil => rfl
  | _, _, .cons _ q => congrArg (· + 1) (DqAll.length q)
theorem DqAll.append : ∀ {vs ws : List V} {ds es : List PyData}, DqAll K H vs ds → DqAll K H ws es → DqAll K H (vs ++ ws) (ds ++ es)
  | _, _, _, _, .nil, q => q
  | _, _, _, _, .cons h q, r => .cons h (DqAll.append q r)
theorem DqAll.get : ∀ {vs : List V} {ds : List PyData} {i : Nat} {v : V}, DqAll K H vs ds → vs[i]? = some v → ∃ d, ds[i]? = some d ∧ Dq K H v d
  | _, _, i, _, .nil, e => by simp at e
  | _, _, 0, _, .cons h _, e => by simp at e; subst e; exact ⟨_, rfl, h⟩
  | _, _, i + 1, v, .cons _ q, e => by
    obtain ⟨d, h1, h2⟩ := DqAll.get (i := i) (v := v) q (by simpa using e)
    exact ⟨d, by simpa using h1, h2⟩
theorem DqAll.get' : ∀ {vs : List V} {ds : List PyData} {i : Nat} {d : PyData}, DqAll K H vs ds → ds[i]? = some d → ∃ v, vs[i]? = some v ∧ Dq K H v d
  | _, _, i, _, .nil, e => by simp at e
  | _, _, 0, _, .cons h _, e => by simp at e; subst e; exact ⟨_, rfl, h⟩
  | _, _, i + 1, v, .cons _ q, e => by
    obtain ⟨d, h1, h2⟩ := DqAll.get' (i := i) (d := v) q (by simpa using e)
    exact ⟨d, by simpa using h1, h2⟩
theorem DqAll.take : ∀ {vs : List V} {ds : List PyData} (n : Nat), DqAll K H vs ds → DqAll K H (vs.take n) (ds.take n)
  | _, _, 0, _ => .nil
  | _, _, _ + 1, .nil => .nil
  | _, _, n + 1, .cons h q => .cons h (DqAll.take n q)
theorem DqAll.drop : ∀ {vs : List V} {ds : List PyData} (n : Nat), DqAll K H vs ds → DqAll K H (vs.drop n) (ds.drop n)
  | _, _, 0, q => q
  | _, _, _ + 1, .nil => .nil
  | _, _, n + 1, .cons _ q => DqAll.drop n q
theorem DqAll.reverse {vs : List V} {ds : List PyData} (q : DqAll K H vs ds) : DqAll K H vs.reverse ds.reverse := by
  induction vs generalizing ds with
  | nil => cases q; exact .nil
  | cons v vs ih =>
    cases q with
    | cons h q =>
      rw [List.reverse_cons, List.reverse_cons]
      exact (ih q).append (.cons h .nil)
theorem DqAll.rep {v : V} {d : PyData} (h : Dq K H v d) : ∀ n : Nat, DqAll K H (List.replicate n v) (List.replicate n d)
  | 0 => .nil
  | n + 1 => .cons h (DqAll.rep h n)
theorem DqAll.flatRep {vs : List V} {ds : List PyData} (q : DqAll K H vs ds) : ∀ n : Nat, DqAll K H (List.replicate n vs).flatten (List.replicate n ds).flatten
  | 0 => .nil
  | n + 1 => q.append (DqAll.flatRep q n)
theorem dqInts : ∀ ns : List Int, DqAll K H (ns.map V.int) (ns.map PyData.int)
  | [] => .nil
  | n :: r => .cons (.int n) (dqInts r)
theorem dqBls : ∀ ns : List Bool, DqAll K H (ns.map V.bl) (ns.map PyData.bool)
  | [] => .nil
  | n :: r => .cons (.bl n) (dqBls r)
theorem dqStrs : ∀ ns : List Str, DqAll K H (ns.map V.str) (ns.map PyData.str)
  | [] => .nil
  | n :: r => .cons (.str n) (dqStrs r)
theorem ofInts : ∀ {vs : List V} {ns : List Int}, DqAll K H vs (ns.map PyData.int) → vs = ns.map V.int
  | [], [], _ => rfl
  | _ :: _, [], q => by cases q
  | [], _ :: _, q => by cases q
  | _ :: _, n :: ns, q => by
    cases q with
    | cons h q =>
      cases h
      exact congrArg _ (ofInts q)
theorem ofBls : ∀ {vs : List V} {ns : List Bool}, DqAll K H vs (ns.map PyData.bool) → vs = ns.map V.bl
  | [], [], _ => rfl
  | _ :: _, [], q => by cases q
  | [], _ :: _, q => by cases q
  | _ :: _, n :: ns, q => by
    cases q with
    | cons h q =>
      cases h
      exact congrArg _ (ofBls q)
theorem ofStrs : ∀ {vs : List V} {ns : List Str}, DqAll K H vs (ns.map PyData.str) → vs = ns.map V.str
  | [], [], _ => rfl
  | _ :: _, [], q => by cases q
  | [], _ :: _, q => by cases q
  | _ :: _, n :: ns, q => by
    cases q with
    | cons h q =>
      cases h
      exact congrArg _ (ofStrs q)
end

/-! ## the order of worlds: B what is known for good, H the heap; M the lists that may change -/
structure Le (M : List Addr) (B H B' H' : Hp) : Prop where
  b : Ex B B'
  h : Ex B' H'
  k : ∀ a o, a ∉ M → H a = some o → H' a = some o
  t : ∀ a, H a ≠ none → H' a ≠ none
  n : ∀ a, B a = none → B' a ≠ none → H a = none
section
variable {M : List Addr} {B H B1 H1 B2 H2 : Hp}
theorem Le.refl (h : Ex B H) : Le M B H B H := ⟨Ex.refl B, h, fun _ _ _ e => e, fun _ e => e, fun _ e e' => absurd e e'⟩
theorem Le.trans (x : Le M B H B1 H1) (y : Le M B1 H1 B2 H2) : Le M B H B2 H2 := by
  refine ⟨x.b.trans y.b, y.h, fun a o ha e => y.k a o ha (x.k a o ha e), fun a e => y.t a (x.t a e), fun a e e2 => ?_⟩
  by_cases z : B1 a = none
  · have w := y.n a z e2
    cases q : H a with
    | none => rfl
    | some o => exact absurd w (x.t a (by rw [q]; simp))
  · exact x.n a e z
theorem Le.wk {M' : List Addr} (x : Le M B H B1 H1) (h : ∀ a ∈ M, a ∈ M') : Le M' B H B1 H1 := ⟨x.b, x.h, fun a o ha e => x.k a o (fun m => ha (h a m)) e, x.t, x.n⟩
theorem Le.any (x : Le [] B H B1 H1) : Le M B H B1 H1 := x.wk fun _ m => nomatch m
theorem Le.ex (x : Le [] B H B1 H1) : Ex H H1 := fun a o e => x.k a o (by simp) e
/-- what is not known for good stays so where it is there -/
theorem Le.own (x : Le M B H B1 H1) {p : Addr} {o : HO} (hp : H p = some o) (hb : B p = none) : B1 p = none := by
  cases q : B1 p with
  | none => rfl
  | some z => 
    have := x.n p hb (by rw [q]; simp)
    rw [hp] at this
    cases this
theorem Le.new {p : Addr} {o : HO} (h : Ex B H) (hp : H p = none) : Le M B H (upd B p o) (upd H p o) := by
  have hb : B p = none := by
    cases q : B p with
    | none => rfl
    | some z => rw [h p z q] at hp; cases hp
  refine ⟨Evl.Ex.new hb, fun a u e => ?_, fun a u _ e => Evl.Ex.new hp a u e, fun a e => ?_, fun a e e2 => ?_⟩
  · unfold upd at e ⊢
    split at e
    · rename_i z; rw [if_pos z]; exact e
    · rename_i z; rw [if_neg z]; exact h a u e
  · unfold upd
    split
    · simp
    · exact e
  · unfold upd at e2
    split at e2
    · rename_i z; rw [z]; exact hp
    · exact absurd e e2
/-- a list of ours is made: it is not known for good -/
theorem Le.made {p : Addr} {o : HO} (h : Ex B H) (hp : H p = none) : Le M B H B (upd H p o) := by
  refine ⟨Ex.refl B, fun a u e => Evl.Ex.new hp a u (h a u e), fun a u _ e => Evl.Ex.new hp a u e, fun a e => ?_, fun a e e2 => absurd e e2⟩
  unfold upd
  split
  · simp
  · exact e
/-- a list of ours is changed -/
theorem Le.put {p : Addr} {o : HO} (h : Ex B H) (hb : B p = none) (hM : p ∈ M) : Le M B H B (upd H p o) := by
  refine ⟨Ex.refl B, fun a u e => ?_, fun a u ha e => ?_, fun a e => ?_, fun a e e2 => absurd e e2⟩
  · have : a ≠ p := fun z => by rw [z, hb] at e; cases e
    rw [upd_ne this]; exact h a u e
  · have : a ≠ p := fun z => ha (z ▸ hM)
    rw [upd_ne this]; exact e
  · unfold upd
    split
    · simp
    · exact e
/-- a list of ours is given away: known for good from now on -/
theorem ex_give {p : Addr} {o : HO} (h : Ex B H) (hp : H p = some o) : Ex (upd B p o) H := fun a u e => by
  unfold upd at e
  split at e
  · rename_i z; cases e; rw [z]; exact hp
  · exact h a u e
theorem Le.give {B0 H0 : Hp} {p : Addr} {o : HO} (x : Le M B0 H0 B H) (h0 : H0 p = none) (hb : B p = none) (hp : H p = some o) : Le M B0 H0 (upd B p o) H := by
  refine ⟨x.b.trans (Evl.Ex.new hb), ex_give x.h hp, x.k, x.t, fun a e e2 => ?_⟩
  by_cases z : a = p
  · rw [z]; exact h0
  · rw [upd_ne z] at e2; exact x.n a e e2
end
end MA

set_option maxRecDepth 100000
set_option maxHeartbeats 2000000
namespace MA
open PySem PySem.Spec PyProof.Rows L2

/-! ## what is read of plain data -/
mutual
def noList : PyData → Bool
  | .list _ => false
  | .tuple xs => noListAll xs
  | .dict kvs => noListKv kvs
  | _ => true
def noListAll : List PyData → Bool
  | [] => true
  | x :: xs => noList x && noListAll xs
def noListKv : List (PyData × PyData) → Bool
  | [] => true
  | (_, v) :: r => noList v && noListKv r
end
section
variable {X : Cx} {pins : List (Addr × Obj)} {σ : L2.St} {H : Hp} {s : Shared}
theorem zipK_fst : ∀ {kvs : List (Key × V)} {ds : List PyData}, kvs.length = ds.length → (zipK kvs ds).map (·.1) = kvs.map (kD ·.1)
  | [], [], _ => rfl
  | (k, v) :: r, d :: ds, h => by
    show kD k :: (zipK r ds).map (·.1) = _
    rw [zipK_fst (by simpa using h)]
    rfl
  | [], _ :: _, h => by simp at h
  | _ :: _, [], h => by simp at h
theorem zipK_snd : ∀ {kvs : List (Key × V)} {ds : List PyData}, kvs.length = ds.length → (zipK kvs ds).map (·.2) = ds
  | [], [], _ => rfl
  | (k, v) :: r, d :: ds, h => by
    show d :: (zipK r ds).map (·.2) = _
    rw [zipK_snd (by simpa using h)]
  | [], _ :: _, h => by simp at h
  | _ :: _, [], h => by simp at h
theorem noListKv_snd : ∀ kvs : List (PyData × PyData), noListKv kvs = noListAll (kvs.map (·.2))
  | [] => by simp [noListKv, noListAll]
  | (k, v) :: r => by simp [noListKv, noListAll, noListKv_snd r]
theorem reads_keys {h : Heap} : ∀ {es : List DictEntry} {kvs : List (Key × V)} {vs : List (Key × Value)}, Pairs (mixKind X.prog X.w) es vs → KV kvs vs → ReadsAll h (es.map (·.key)) (kvs.map (kD ·.1)) []
  | [], _, _, p, r => by
    cases p
    cases r
    exact .nil
  | e :: es, _, _, p, r => by
    cases p with
    | cons p1 p2 p3 =>
      cases r with
      | cons r1 r2 =>
        rename_i a l
        have e1 : a.1 = _ := r1.1
        have q := reads_keys (h := h) p3 r2
        have z : Reads h e.key (kD a.1) [] := by
          rw [e1]
          rcases keyIs_shape (show keyIs _ e.key = true from p1) with ⟨i, t, z1, z2⟩ | ⟨x, t, z1, z2⟩
          · rw [z1, z2]; exact .int i t
          · rw [z1, z2]; exact .str x t
        exact ReadsAll.cons (as := []) (bs := []) z q
theorem vals_pairs : ∀ {es : List DictEntry} {kvs : List (Key × V)} {vs : List (Key × Value)}, Pairs (mixKind X.prog X.w) es vs → KV kvs vs → Vals (kvs.map (·.2)) (es.map (·.val))
  | [], _, _, p, r => by
    cases p
    cases r
    exact .nil
  | e :: es, _, _, p, r => by
    cases p with
    | cons p1 p2 p3 =>
      cases r with
      | cons r1 r2 => exact .cons (by show RelV _ e.val; rw [p2]; exact r1.2) (vals_pairs p3 r2)
theorem append_ne {as bs : List Addr} (h1 : ∀ b ∈ as, (b == sysModules) = false) (h2 : ∀ b ∈ bs, (b == sysModules) = false) : ∀ b ∈ as ++ bs, (b == sysModules) = false := fun b hb => (List.mem_append.mp hb).elim (h1 b) (h2 b)
mutual
theorem Dq.reads (I : Inv X pins σ H s) : ∀ {v : V} {d : PyData} {u : Value}, Dq X.K H v d → RelV v u → ∃ as, Reads s.heap u d as ∧ (noList d = true → ∀ b ∈ as, (b == sysModules) = false)
  | _, _, _, .non, r => by
    cases r
    exact ⟨_, Reads.none, fun _ b hb => by cases hb⟩
  | _, _, _, .bl b, r => by
    cases r
    exact ⟨_, Reads.bool b, fun _ b hb => by cases hb⟩
  | _, _, _, .int i, r => by
    obtain ⟨t, rfl⟩ := r
    exact ⟨_, Reads.int i t, fun _ b hb => by cases hb⟩
  | _, _, _, .str x, r => by
    obtain ⟨t, rfl⟩ := r
    exact ⟨_, Reads.str x t, fun _ b hb => by cases hb⟩
  | _, _, _, .lst h q, r => by
    cases r
    obtain ⟨its, rv, ⟨o, n, ho, hc, _, hd⟩, _⟩ := I.list (.inl (.inl h))
    obtain ⟨as, hr, _⟩ := DqAll.reads I q rv
    exact ⟨_, Reads.list ho hc hd hr, fun z => by simp [noList] at z⟩
  | _, _, _, .tup h q, r => by
    cases r
    obtain ⟨its, rv, ⟨o, ho, hc, n, hd⟩, _⟩ := I.tuple h
    obtain ⟨as, hr, hn⟩ := DqAll.reads I q rv
    exact ⟨_, Reads.tuple ho hc hd hr, fun z => hn (by simpa [noList] using z)⟩
  | _, _, _, .dct (kvs := kvs) (ds := ds) h q, r => by
    cases r
    obtain ⟨_, hne, vs, rv, o, es, ep, ho, hx, hd, _, hp, _⟩ := I.hok _ _ h
    obtain ⟨as, hr, hn⟩ := DqAll.reads I q (vals_pairs hp rv)
    have hl : kvs.length = ds.length := by
      have e := q.length
      rw [List.length_map] at e
      exact e
    have hk := reads_keys (h := s.heap) hp rv
    refine ⟨_, Reads.dict ho hx.1 hd (kvs := zipK kvs ds) (as := []) (bs := as) ?_ ?_, fun z b hb => ?_⟩
    · rw [zipK_fst hl]; exact hk
    · rw [zipK_snd hl]; exact hr
    · simp only [noList, noListKv_snd, zipK_snd hl] at z
      rcases List.mem_cons.mp hb with e | hb
      · rw [e]; exact hne
      · exact hn z b (by simpa using hb)
theorem DqAll.reads (I : Inv X pins σ H s) : ∀ {vs : List V} {ds : List PyData} {us : List Value}, DqAll X.K H vs ds → Vals vs us → ∃ as, ReadsAll s.heap us ds as ∧ (noListAll ds = true → ∀ b ∈ as, (b == sysModules) = false)
  | _, _, _, .nil, r => by
    cases r
    exact ⟨_, ReadsAll.nil, fun _ b hb => by cases hb⟩
  | _, _, _, .cons h q, r => by
    cases r with
    | cons r1 r2 =>
      obtain ⟨as, q1, n1⟩ := Dq.reads I h r1
      obtain ⟨bs, q2, n2⟩ := DqAll.reads I q r2
      refine ⟨_, ReadsAll.cons q1 q2, fun z => ?_⟩
      simp only [noListAll, Bool.and_eq_true] at z
      exact append_ne (n1 z.1) (n2 z.2)
end
end
section
variable {X : Cx}
/-- repr of plain data, where no repr is under way -/
def rRepr (K : PySem.W.Frag) : List V → Hp → VK → Prop := fun xs H Q => ∃ (x : V) (d : PyData), xs = [x] ∧ Dq K H x d ∧ d.showable = true ∧ (d.hasDict = false ∨ noList d = true) ∧ d.shown.length ≤ sizeLine ∧ d.depth ≤ 60 ∧ Q (.str d.shown) H
theorem call_repr (hg : X.A.guards = some []) (hu : X.A.units + 64 < cLine) : CallR X (.builtin "repr") (rRepr X.K) := by
  intro pins s σ H xs us Q I r h
  obtain ⟨x, d, rfl, hx, hs, hn, hz, hd, q⟩ := h
  obtain ⟨u, rfl, ru⟩ := vals1 r
  obtain ⟨as, hr, ha⟩ := Dq.reads I hx ru
  have hsm : d.hasDict = true → sysModules ∉ as := fun e => by
    rcases hn with z | z
    · rw [z] at e; cases e
    · intro m
      have := ha z _ m
      simp at this
  have fin : ∀ h' u tk, (∀ b o, s.heap.get? b = some o → h'.get? b = some o) → EP X pins σ Q (.str d.shown u) { s with heap := h', toks := tk } := fun h' u tk hk =>
    ⟨.str d.shown, H, I.kept hk, ⟨u, rfl⟩, q⟩
  cases hx with
  | non => cases ru; exact PySem.P.repr_of_none (fin s.heap _ _ fun _ _ e => e)
  | bl b => cases ru; exact PySem.P.repr_of_bool (by have := fin s.heap s.toks (s.toks + 1) fun _ _ e => e; simpa only [PyData.shown] using this)
  | int i => obtain ⟨t, rfl⟩ := ru; exact PySem.P.repr_of_int (by simpa [PyData.showable] using hs) (by have := fin s.heap s.toks (s.toks + 1) fun _ _ e => e; simpa only [PyData.shown] using this)
  | str y => obtain ⟨t, rfl⟩ := ru; exact PySem.P.repr_of_str (by have := fin s.heap s.toks (s.toks + 1) fun _ _ e => e; simpa only [PyData.shown] using this) (by simpa only [PyData.shown] using hz)
  | lst h1 h2 => cases ru; exact repr_of_reads' hr hs hsm hg (by omega) (fun _ _ e => e) fin hz
  | tup h1 h2 => cases ru; exact repr_of_reads' hr hs hsm hg (by omega) (fun _ _ e => e) fin hz
  | dct h1 h2 => cases ru; exact repr_of_reads' hr hs hsm hg (by omega) (fun _ _ e => e) fin hz
end
end MA

set_option maxRecDepth 100000
set_option maxHeartbeats 2000000
namespace MA
open PySem PySem.Spec PyProof.Rows L2

/-! ## the law's own call: no repr is under way around it -/
/-- the promise of a def whose caller has no repr under way -/
def FnG (P : Program) (w : World) (K : PySem.W.Frag) (mg : Str → Option Value) (base : Heap) (k : Nat) (f : Addr) (fd : FuncData) (ps : List Str) (sp : Sp) : Prop :=
  ∀ (A : Around) (outer : List Env) (s : Shared) (H : Hp) (us : List Value) (vs : List V) (Q : VK), A.guards = some [] → Room k A → Env0 P w K mg base A outer s H →
    BindsTo s fd ⟨us, []⟩ (ps.zip us) → Vals vs us → vs.length = ps.length → sp vs H Q E0 → codeAny (model P w) A (.call (.ref f) ⟨us, []⟩) (CR CX0 outer P w H s Q E0) s
section
variable {P : Program} {w : World} {K : PySem.W.Frag} {mg : Str → Option Value} {base : Heap}
theorem fnG {x qual : Str} {st : Stmt} {f : Addr} {fd : FuncData} {N ps : List Str} {k : Nat} {sp : Sp} (F : Fun K x qual st f fd) (S : FnScope N ps (defScope st))
    (hb : ∀ (cdv : Value) (A : Around) (outer : List Env) (s : Shared) (H : Hp) (vs : List V) (Q : VK), A.guards = some [] → Room k (A.deeper (envOfC qual (defScope st) s.heap.objs.size f cdv)) → sp vs H Q E0 →
      ∃ t, PSs (cxOf CX0 P w K mg base N qual (defScope st) f cdv A outer s H E0).nox (defBody st) t ∧ t { nx := fun _ H' => Q .non H', rt := Q } (start N vs) H) : FnG P w K mg base (k + 1) f fd ps sp := by
  obtain ⟨oc, od, kV, doc, pm, an, cdv, ct, osl, rfl, lk, hcd⟩ := F.ex
  intro A outer s H us vs Q hg hr e0 hbd rv hln hsp
  have kin : K.In s.heap := e0.mod.kin.keeps fun b o e => (e0.bs b o e).1
  refine codeAny_call_function hr.depth (kin _ _ lk) rfl S.co S.gen rfl (PySem.W.codeRec_of kin hcd) (hbd _ _ _ _ ?_)
  refine wpAny_newFunctionEnv_cells S.kind (fun y hy => ?_) fun env hv s1 x1 => ?_
  · rcases S.par y.1 (List.of_mem_zip hy).1 with z | z
    · exact .inl z
    · exact .inr ⟨z, PySem.W.cellsFrom_some _ _ _ (.inl z)⟩
  cases hv
  refine ⟨(e0.mod.nolimit.keeps fun b o e => (e0.bs b o e).1).keeps x1.toInCall.keep, codeAny_func ?_⟩
  obtain ⟨t, ht, hq⟩ := hb cdv A outer s H vs Q hg (hr.deeper _) hsp
  refine wpAny_mono (ht.nox.run [] s1 (start N vs) H _ (inv_start S hr.hd e0 hln rv x1) hq) (fun fl s2 h2 => ?_) fun e s2 h2 => h2
  cases fl with
  | ret u =>
    obtain ⟨v, σ2, H2, J, r2, q2⟩ := h2
    exact ⟨v, H2, J.os, J.bare, J.base, J.hok, r2, q2⟩
  | next =>
    obtain ⟨σ2, H2, J, q2⟩ := h2
    exact ⟨V.non, H2, J.os, J.bare, J.base, J.hok, rfl, q2⟩
  | brk =>
    obtain ⟨_, _, _, q2⟩ := h2
    exact q2.elim
  | cont =>
    obtain ⟨_, _, _, q2⟩ := h2
    exact q2.elim
/-- the abstract heap at the law's entry: the script alone, locked, where the module does not hold it -/
def scriptH (K : PySem.W.Frag) (a : Addr) (vs : List Value) (ns : List Int) : Hp := fun b =>
  if b = a ∧ K.lookup a = none then some (.frz { cls := .type "list", data := .seq vs.toArray } (.lst (ns.map V.int))) else none
theorem scriptH_some {a b : Addr} {vs : List Value} {ns : List Int} {u : HO} (h : scriptH K a vs ns b = some u) : b = a ∧ K.lookup a = none ∧ u = .frz { cls := .type "list", data := .seq vs.toArray } (.lst (ns.map V.int)) := by
  unfold scriptH at h
  split at h
  · rename_i z; cases h; exact ⟨z.1, z.2, rfl⟩
  · cases h
theorem law_callG {mb : Str → Option Value} {k : Nat} {fa a : Addr} {fd : FuncData} {x : Str} {sp : Sp} {s1 : Shared} {vs : List Value} {ns : List Int}
    (kin : K.In s1.heap) (g1 : s1.heap.Ns mainGlobals mg) (g2 : s1.heap.Ns builtinsNs mb) (g3 : ∀ x : Str, x ≠ "__name__" → mb x = bootBuiltins x) (nl : s1.heap.NoLimit) (gn : s1.gens = #[])
    (ha : s1.heap.get? a = some { cls := .type "list", data := .seq vs.toArray }) (hi : IntsAre vs ns) (hl : ns.length ≤ sizeLine) (hr : Room k callerA)
    (F : ∀ base : Heap, K.In base → base.Ns mainGlobals mg → FnG P w K mg base k fa fd [x] sp) (hb : ∀ (s : Shared) (u : Value), BindsTo s fd ⟨[u], []⟩ [(x, u)])
    (hsp : ∀ H : Hp, Only H → SqL K H a (ns.map V.int) → sp [.ref a] H (fun v _ => v = .bl true) E0) :
    codeAny (model P w) callerA (.call (.ref fa) ⟨[.ref a], []⟩) (fun r s' => r = .ok (.ret (.bool true)) ∧ OldK s1.heap s'.heap ∧ s'.os = s1.os ∧ AllBare s'.gens) s1 := by
  have rv := vals_ints hi
  have hle := hi.length
  generalize hH : scriptH K a vs ns = H
  have inH : ∀ {b u}, H b = some u → b = a ∧ K.lookup a = none ∧ u = .frz { cls := .type "list", data := .seq vs.toArray } (.lst (ns.map V.int)) := fun e => scriptH_some (by rw [hH]; exact e)
  have nk : ∀ b o, K.lookup b = some o → H b = none := fun b o e => by
    cases q : H b with
    | none => rfl
    | some u =>
      obtain ⟨z1, z2, _⟩ := inH q
      rw [z1, z2] at e; cases e
  have nd : ∀ {b o es ep}, s1.heap.get? b = some o → o.data = .dict es ep → H b = none := fun {b o es ep} e d => by
    cases q : H b with
    | none => rfl
    | some u =>
      obtain ⟨z1, _, _⟩ := inH q
      rw [z1, ha] at e
      cases e
      cases d
  have ns' : ∀ {b m}, s1.heap.Ns b m → (hidT s1.heap H).Ns b m := fun {b m} ⟨o, es, ep, e, d, z⟩ => ⟨o, es, ep, hidT_get e (nd e d), d, z⟩
  have kb : K.In (hidT s1.heap H) := fun b o e => hidT_get (kin b o e) (nk b o e)
  have ok : HOk P w H s1.heap := fun b u e => by
    obtain ⟨z1, _, z3⟩ := inH e
    subst z1 z3
    exact ⟨ha, by rw [List.length_map]; exact hl, vs, _, rv, ha⟩
  have only : Only H := fun b => by
    cases q : H b with
    | none => exact .inl rfl
    | some u => obtain ⟨_, _, z⟩ := inH q; exact .inr ⟨_, _, by rw [z]⟩
  have sq : SqL K H a (ns.map V.int) := by
    cases q : K.lookup a with
    | none => exact .inl (.inr ⟨{ cls := .type "list", data := .seq vs.toArray }, by rw [← hH]; exact if_pos ⟨rfl, q⟩⟩)
    | some o =>
      have e := kin a o q
      rw [ha] at e
      cases e
      exact .inr ⟨_, vs.toArray, _, q, rfl, rfl, rfl, by rw [List.size_toArray, hle]; exact hl, by simpa using rv⟩
  have md : Mod K mg (hidT s1.heap H) := ⟨kb, ns' g1, ⟨mb, ns' g2, g3⟩, let ⟨mc, h1, h2⟩ := nl; ⟨mc, ns' h1, h2⟩⟩
  have e0 : Env0 P w K mg (hidT s1.heap H) callerA [] s1 H := ⟨rfl, md, fun b o e => of_hidT e, Nat.le_of_eq (hidT_size _ _), trivial, fun b hb => (by cases hb), ok, .of_eq gn⟩
  refine codeAny_mono (F _ kb (ns' g1) callerA [] s1 H [.ref a] [.ref a] _ rfl hr e0 (hb s1 (.ref a)) (.cons rfl .nil) rfl (hsp H only sq)) fun r s2 h2 => ?_
  cases r with
  | error e => exact False.elim h2
  | ok fl =>
    cases fl with
    | next => exact False.elim h2
    | brk => exact False.elim h2
    | cont => exact False.elim h2
    | ret u =>
      obtain ⟨v, H2, os, bare, un, ok2, r2, q2⟩ := h2
      cases (show v = .bl true from q2)
      cases (show u = Value.bool true from r2)
      refine ⟨rfl, OldK.of_keep fun b o e => ?_, os, bare⟩
      cases q : H b with
      | none => exact un.keep b o e q (fun z => (by cases z)) (fun z => (by cases z))
      | some u =>
        obtain ⟨z1, z2, z3⟩ := inH q
        rw [z3] at q
        have w1 := (ok b _ q).1
        have w2 := (ok2 b _ (un.frzs b _ _ q)).1
        rw [e] at w1
        cases w1
        exact w2
end
/-- the end of a law's row, where the law itself may call repr -/
theorem walk_ofG {l : PySem.W.OpenLaw} {n k : Nat} {q : Program} {loose : List Str} {XP : (Str → Option Value) → Heap → Prop} {YP : World → Heap → Prop} {d : DefRec} {K : Params → PySem.W.Frag} {sp : World → Sp} {x : Str}
    (hn : l.most = some n) (hn2 : n ≤ sizeLine) (hdf : d.params.defaults = []) (hr : Room k callerA) (hY : ∀ (w : World) (h : Heap), YP w h → (K w.params).In h)
    (F : ∀ (w : World) (mg : Str → Option Value) (fa : Addr) (h : Heap), (K w.params).In h → h.Ns mainGlobals mg → mg d.name = some (.ref fa) →
      ∃ fd : FuncData, (∀ (s : Shared) (u : Value), BindsTo s fd ⟨[u], []⟩ [(x, u)]) ∧ ∀ base : Heap, (K w.params).In base → base.Ns mainGlobals mg → FnG l.prog w (K w.params) mg base k fa fd [x] (sp w))
    (hsp : ∀ (w : World) (H : Hp) (a : Addr) (ns : List Int), ns.length ≤ n → Only H → SqL (K w.params) H a (ns.map V.int) → sp w [.ref a] H (fun v _ => v = .bl true) E0) :
    PySem.W.WalkO q loose XP YP l.row.toRowW d [] (fun f vs => PySem.call f vs) := by
  refine Att.attach_call hn hdf fun w s0 s1 mg mb fa o pm cd doc a vs ns G Y ho hd hcd hmg hobj hints hlen hg => ?_
  obtain ⟨fd, hb, hF⟩ := F w mg fa _ (hY w _ Y) G.T.g hmg
  exact law_callG (hY w _ Y) G.T.g G.T.b G.T.builtins G.T.nolimit hg hobj hints (Nat.le_trans hlen hn2) hr hF hb fun H h1 h2 => hsp w H a ns hlen h1 h2
end MA

set_option maxRecDepth 100000
set_option maxHeartbeats 2000000
namespace MA
open PySem PySem.Spec PyProof.Rows L2

/-! ## what an expression is worth, in plain data -/
section
variable (K : PySem.W.Frag)
def Ev (te : TE) (σ : L2.St) (B H : Hp) (d : PyData) : Prop := ∀ B1 H1, Le [] B H B1 H1 → ∀ Q : VK, (∀ v B2 H2, Le [] B1 H1 B2 H2 → Dq K B2 v d → Q v H2) → te σ H1 Q
def EvT (t : TT) (σ : L2.St) (B H : Hp) (b : Bool) : Prop := ∀ B1 H1, Le [] B H B1 H1 → ∀ Q : Bool → Hp → Prop, (∀ B2 H2, Le [] B1 H1 B2 H2 → Q b H2) → t σ H1 Q
def EvA (ta : TA) (σ : L2.St) (B H : Hp) (ds : List PyData) : Prop := ∀ B1 H1, Le [] B H B1 H1 → ∀ Q : List V → Hp → Prop, (∀ vs B2 H2, Le [] B1 H1 B2 H2 → DqAll K B2 vs ds → Q vs H2) → ta σ H1 Q
def EvO (t : TO) (σ : L2.St) (B H : Hp) (o : Option Int) : Prop := ∀ B1 H1, Le [] B H B1 H1 → ∀ Q : Option Int → Hp → Prop, (∀ B2 H2, Le [] B1 H1 B2 H2 → Q o H2) → t σ H1 Q
/-- rules by values: an operator, a call -/
def RV (r : R2) (x y z : PyData) : Prop := ∀ B H v u, Ex B H → Dq K B v x → Dq K B u y → ∀ Q : VK, (∀ w B' H', Le [] B H B' H' → Dq K B' w z → Q w H') → r v u H Q
def RU (r : V → Hp → VK → Prop) (x z : PyData) : Prop := ∀ B H v, Ex B H → Dq K B v x → ∀ Q : VK, (∀ w B' H', Le [] B H B' H' → Dq K B' w z → Q w H') → r v H Q
def RC (r : List V → Hp → VK → Prop) (xs : List PyData) (z : PyData) : Prop := ∀ B H vs, Ex B H → DqAll K B vs xs → ∀ Q : VK, (∀ w B' H', Le [] B H B' H' → Dq K B' w z → Q w H') → r vs H Q
def RM (r : V → List V → Hp → VK → Prop) (x : PyData) (xs : List PyData) (z : PyData) : Prop := ∀ B H v vs, Ex B H → Dq K B v x → DqAll K B vs xs → ∀ Q : VK, (∀ w B' H', Le [] B H B' H' → Dq K B' w z → Q w H') → r v vs H Q
def RS (r : V → Option Int → Option Int → Hp → VK → Prop) (x : PyData) (lo hi : Option Int) (z : PyData) : Prop := ∀ B H v, Ex B H → Dq K B v x → ∀ Q : VK, (∀ w B' H', Le [] B H B' H' → Dq K B' w z → Q w H') → r v lo hi H Q
end
section
variable {K : PySem.W.Frag} {σ : L2.St} {B H : Hp} {ta tb te tc : TE} {t u : TT} {a b c d x y z : PyData} {r : R2} {v : V}
theorem Ev.up {B' H' : Hp} (l : Le [] B H B' H') (h : Ev K te σ B H d) : Ev K te σ B' H' d := fun B1 H1 l1 Q q => h B1 H1 (l.trans l1) Q q
theorem EvT.up {B' H' : Hp} {k : Bool} (l : Le [] B H B' H') (h : EvT t σ B H k) : EvT t σ B' H' k := fun B1 H1 l1 Q q => h B1 H1 (l.trans l1) Q q
theorem EvA.up {ta : TA} {ds : List PyData} {B' H' : Hp} (l : Le [] B H B' H') (h : EvA K ta σ B H ds) : EvA K ta σ B' H' ds := fun B1 H1 l1 Q q => h B1 H1 (l.trans l1) Q q
theorem ev_var {i : Nat} (h : σ[i]? = some (some v)) (hd : Dq K B v d) : Ev K (tVar i) σ B H d := fun B1 H1 l Q q => ⟨v, h, q v B1 H1 (Le.refl l.h) (hd.mono l.b)⟩
theorem ev_c (hd : Dq K B v d) : Ev K (tC v) σ B H d := fun B1 H1 l Q q => q v B1 H1 (Le.refl l.h) (hd.mono l.b)
theorem ev_i {i : Int} : Ev K (tC (.int i)) σ B H (.int i) := ev_c (.int i)
theorem ev_s {s : Str} : Ev K (tC (.str s)) σ B H (.str s) := ev_c (.str s)
theorem ev_b {k : Bool} : Ev K (tC (.bl k)) σ B H (.bool k) := ev_c (.bl k)
theorem ev_n : Ev K (tC .non) σ B H .none := ev_c .non
theorem ev_op (ha : Ev K ta σ B H x) (hb : Ev K tb σ B H y) (hr : RV K r x y z) : Ev K (tOp r ta tb) σ B H z := fun B1 H1 l Q q =>
  ha B1 H1 l _ fun v B2 H2 l2 hv => hb B2 H2 (l.trans l2) _ fun w B3 H3 l3 hw => hr B3 H3 v w l3.h (hv.mono l3.b) hw Q fun o B4 H4 l4 ho => q o B4 H4 ((l2.trans l3).trans l4) ho
theorem ev_un {r : V → Hp → VK → Prop} (ha : Ev K ta σ B H x) (hr : RU K r x z) : Ev K (tUn r ta) σ B H z := fun B1 H1 l Q q =>
  ha B1 H1 l _ fun v B2 H2 l2 hv => hr B2 H2 v l2.h hv Q fun o B4 H4 l4 ho => q o B4 H4 (l2.trans l4) ho
theorem ea_nil : EvA K tNil σ B H [] := fun B1 H1 l Q q => q [] B1 H1 (Le.refl l.h) .nil
theorem ea_cons {tr : TA} {ds : List PyData} (ha : Ev K ta σ B H d) (hr : EvA K tr σ B H ds) : EvA K (tCons ta tr) σ B H (d :: ds) := fun B1 H1 l Q q =>
  ha B1 H1 l _ fun v B2 H2 l2 hv => hr B2 H2 (l.trans l2) _ fun vs B3 H3 l3 hs => q (v :: vs) B3 H3 (l2.trans l3) (.cons (hv.mono l3.b) hs)
theorem ev_tup {ts : TA} {ds : List PyData} (h : EvA K ts σ B H ds) (hz : ds.length ≤ sizeLine) : Ev K (tTup ts) σ B H (.tuple ds) := fun B1 H1 l Q q =>
  h B1 H1 l _ fun vs B2 H2 l2 hs => ⟨by rw [hs.length]; exact hz, fun p hp => q (.ref p) _ _ (l2.trans (Le.new l2.h hp)) (.tup (.inl (.inl upd_same)) (hs.mono (Le.new (M := []) l2.h hp).b))⟩
theorem ev_lst {ts : TA} {ds : List PyData} (h : EvA K ts σ B H ds) (hz : ds.length ≤ sizeLine) : Ev K (tLst ts) σ B H (.list ds) := fun B1 H1 l Q q =>
  h B1 H1 l _ fun vs B2 H2 l2 hs => ⟨by rw [hs.length]; exact hz, fun p hp => q (.ref p) _ _ (l2.trans (Le.new l2.h hp)) (.lst upd_same (hs.mono (Le.new (M := []) l2.h hp).b))⟩
theorem ev_cb {rr : List V → Hp → VK → Prop} {ts : TA} {ds : List PyData} (h : EvA K ts σ B H ds) (hr : RC K rr ds z) : Ev K (tCB rr ts) σ B H z := fun B1 H1 l Q q =>
  h B1 H1 l _ fun vs B2 H2 l2 hs => hr B2 H2 vs l2.h hs Q fun o B4 H4 l4 ho => q o B4 H4 (l2.trans l4) ho
theorem ev_sl {rr : V → Option Int → Option Int → Hp → VK → Prop} {tl th : TO} {lo hi : Option Int} (h : Ev K te σ B H x) (h1 : EvO tl σ B H lo) (h2 : EvO th σ B H hi) (hr : RS K rr x lo hi z) : Ev K (tSl rr te tl th) σ B H z := fun B1 H1 l Q q =>
  h B1 H1 l _ fun v B2 H2 l2 hv => h1 B2 H2 (l.trans l2) _ fun B3 H3 l3 => h2 B3 H3 ((l.trans l2).trans l3) _ fun B4 H4 l4 => hr B4 H4 v l4.h ((hv.mono l3.b).mono l4.b) Q fun o B5 H5 l5 ho => q o B5 H5 (((l2.trans l3).trans l4).trans l5) ho
theorem eo_none : EvO tNoPart σ B H none := fun B1 H1 l Q q => q B1 H1 (Le.refl l.h)
theorem eo_some {i : Int} (h : Ev K te σ B H (.int i)) : EvO (tPart te) σ B H (some i) := fun B1 H1 l Q q =>
  h B1 H1 l _ fun v B2 H2 l2 hv => by cases hv; exact ⟨i, rfl, q B2 H2 l2⟩
theorem ev_if {k : Bool} (h : EvT t σ B H k) (h1 : k = true → Ev K ta σ B H d) (h2 : k = false → Ev K tb σ B H d) : Ev K (tIf t ta tb) σ B H d := fun B1 H1 l Q q =>
  h B1 H1 l _ fun B2 H2 l2 => by
    cases k with
    | true => exact h1 rfl B2 H2 (l.trans l2) _ fun v B3 H3 l3 hv => q v B3 H3 (l2.trans l3) hv
    | false => exact h2 rfl B2 H2 (l.trans l2) _ fun v B3 H3 l3 hv => q v B3 H3 (l2.trans l3) hv
/-! tests -/
theorem et_B {k : Bool} (h : Ev K ta σ B H (.bool k)) : EvT (tB ta) σ B H k := fun B1 H1 l Q q => h B1 H1 l _ fun v B2 H2 l2 hv => by cases hv; exact ⟨k, rfl, q B2 H2 l2⟩
theorem et_test {k : Bool} (h : Ev K ta σ B H (.bool k)) : EvT (tTest ta) σ B H k := fun B1 H1 l Q q => h B1 H1 l _ fun v B2 H2 l2 hv => by cases hv; exact ⟨k, rfl, q B2 H2 l2⟩
theorem et_not {k : Bool} (h : EvT t σ B H k) : EvT (tNot t) σ B H (!k) := fun B1 H1 l Q q => h B1 H1 l _ fun B2 H2 l2 => q B2 H2 l2
theorem et_and {k j : Bool} (h1 : EvT t σ B H k) (h2 : k = true → EvT u σ B H j) : EvT (tAnd t u) σ B H (k && j) := fun B1 H1 l Q q => h1 B1 H1 l _ fun B2 H2 l2 => by
  cases k with
  | true => exact h2 rfl B2 H2 (l.trans l2) _ fun B3 H3 l3 => q B3 H3 (l2.trans l3)
  | false => exact q B2 H2 l2
theorem et_or {k j : Bool} (h1 : EvT t σ B H k) (h2 : k = false → EvT u σ B H j) : EvT (tOr t u) σ B H (k || j) := fun B1 H1 l Q q => h1 B1 H1 l _ fun B2 H2 l2 => by
  cases k with
  | true => exact q B2 H2 l2
  | false => exact h2 rfl B2 H2 (l.trans l2) _ fun B3 H3 l3 => q B3 H3 (l2.trans l3)
theorem ev_notV {k : Bool} (h : Ev K ta σ B H (.bool k)) : Ev K (tNotV ta) σ B H (.bool (!k)) := fun B1 H1 l Q q => h B1 H1 l _ fun v B2 H2 l2 hv => by cases hv; exact ⟨k, rfl, q _ B2 H2 l2 (.bl _)⟩
theorem ev_andV {k j : Bool} (h1 : Ev K ta σ B H (.bool k)) (h2 : k = true → Ev K tb σ B H (.bool j)) : Ev K (tAndV ta tb) σ B H (.bool (k && j)) := fun B1 H1 l Q q => h1 B1 H1 l _ fun v B2 H2 l2 hv => by
  cases hv
  refine ⟨k, rfl, ?_⟩
  cases k with
  | true => exact h2 rfl B2 H2 (l.trans l2) _ fun v B3 H3 l3 hv => q v B3 H3 (l2.trans l3) hv
  | false => exact q _ B2 H2 l2 (.bl _)
theorem ev_orV {k j : Bool} (h1 : Ev K ta σ B H (.bool k)) (h2 : k = false → Ev K tb σ B H (.bool j)) : Ev K (tOrV ta tb) σ B H (.bool (k || j)) := fun B1 H1 l Q q => h1 B1 H1 l _ fun v B2 H2 l2 hv => by
  cases hv
  refine ⟨k, rfl, ?_⟩
  cases k with
  | true => exact q _ B2 H2 l2 (.bl _)
  | false => exact h2 rfl B2 H2 (l.trans l2) _ fun v B3 H3 l3 hv => q v B3 H3 (l2.trans l3) hv
theorem ev_chain {r r' : R2} {k j : Bool} (ha : Ev K ta σ B H a) (hb : Ev K tb σ B H b) (hc : k = true → Ev K tc σ B H c) (h1 : RV K r a b (.bool k)) (h2 : k = true → RV K r' b c (.bool j)) : Ev K (tChain r r' ta tb tc) σ B H (.bool (k && j)) := fun B1 H1 l Q q =>
  ha B1 H1 l _ fun v B2 H2 l2 hv => hb B2 H2 (l.trans l2) _ fun w B3 H3 l3 hw => h1 B3 H3 v w l3.h (hv.mono l3.b) hw _ fun o B4 H4 l4 ho => by
    cases ho
    refine ⟨k, rfl, ?_⟩
    have l24 := (l2.trans l3).trans l4
    cases k with
    | true => exact hc rfl B4 H4 (l.trans l24) _ fun y B5 H5 l5 hy => h2 rfl B5 H5 w y l5.h ((hw.mono l4.b).mono l5.b) hy Q fun o B6 H6 l6 ho => q o B6 H6 ((l24.trans l5).trans l6) ho
    | false => exact q _ B4 H4 l24 (.bl _)
theorem et_chain {r r' : R2} {k j : Bool} (ha : Ev K ta σ B H a) (hb : Ev K tb σ B H b) (hc : k = true → Ev K tc σ B H c) (h1 : RV K r a b (.bool k)) (h2 : k = true → RV K r' b c (.bool j)) : EvT (tTest (tChain r r' ta tb tc)) σ B H (k && j) := et_test (ev_chain ha hb hc h1 h2)
/-! ### a def's promise -/
/-- pure: arguments of which Pre holds, an answer of which Post holds; CX0 or an exception: never raised -/
def Pu (K : PySem.W.Frag) (Pre : List PyData → Prop) (Post : List PyData → PyData → Prop) : Sp := fun vs H Q _ => ∃ B ds, Ex B H ∧ DqAll K B vs ds ∧ Pre ds ∧ ∀ d, Post ds d → ∀ v B' H', Le [] B H B' H' → Dq K B' v d → Q v H'
/-- a def of one value -/
abbrev Pf (K : PySem.W.Frag) (Pre : List PyData → Prop) (f : List PyData → PyData) : Sp := Pu K Pre fun ds d => d = f ds
theorem ev_call {Pre : List PyData → Prop} {f : List PyData → PyData} {E : XK} {ts : TA} {ds : List PyData} (h : EvA K ts σ B H ds) (hp : Pre ds) : Ev K (tCall (Pf K Pre f) [] E ts) σ B H (f ds) := fun B1 H1 l Q q =>
  h B1 H1 l _ fun vs B2 H2 l2 hs => ⟨B2, ds, l2.h, by rw [List.append_nil]; exact hs, hp, fun d hd v B3 H3 l3 hv => by subst hd; exact q v B3 H3 (l2.trans l3) hv⟩
/-- from slots and heap to the promise's end -/
theorem pu_len {Pre : List PyData → Prop} {Post : List PyData → PyData → Prop} {n : Nat} (hn : ∀ ds, Pre ds → ds.length = n) (vs : List V) (H : Hp) (Q : VK) (E : XK) (h : Pu K Pre Post vs H Q E) : vs.length = n := by
  obtain ⟨B, ds, _, h1, h2, _⟩ := h
  rw [h1.length]
  exact hn ds h2
/-! ### statements -/
variable {D : Ends} {tu tw tz : TS}
theorem s_ret (h : Ev K te σ B H d) (e : Ex B H) (q : ∀ v B' H', Le [] B H B' H' → Dq K B' v d → D.rt v H') : tRet te D σ H := h B H (Le.refl e) _ q
theorem s_set {i : Nat} (h : Ev K te σ B H d) (e : Ex B H) (q : ∀ v B' H', Le [] B H B' H' → Dq K B' v d → D.nx (σ.set i (some v)) H') : tAsg te (gName i) D σ H := h B H (Le.refl e) _ q
theorem s_if {k : Bool} (h : EvT t σ B H k) (e : Ex B H) (h1 : k = true → ∀ B' H', Le [] B H B' H' → tu D σ H') (h2 : k = false → ∀ B' H', Le [] B H B' H' → tw D σ H') : tIfS t tu tw D σ H := h B H (Le.refl e) _ fun B' H' l => by
  cases k with
  | true => exact h1 rfl B' H' l
  | false => exact h2 rfl B' H' l
theorem s_drop (h : Ev K te σ B H d) (e : Ex B H) (q : ∀ B' H', Le [] B H B' H' → D.nx σ H') : tDrop te D σ H := h B H (Le.refl e) _ fun _ B' H' l _ => q B' H' l
/-- a name that is read while a list of ours is open: what is told of it is plain -/
theorem Ev.own {p : Addr} {o : HO} (h : Ev K te σ (upd B p o) H d) (hp : H p = some o) (hb : B p = none) (sc : ∀ {H1 H2 : Hp} {v : V}, Dq K H1 v d → Dq K H2 v d) : Ev K te σ B H d := fun B1 H1 l Q q => by
  have hb1 : B1 p = none := l.own hp hb
  have hp1 : H1 p = some o := l.k p o (by simp) hp
  refine h (upd B1 p o) H1 ⟨fun a u e => ?_, ex_give l.h hp1, l.k, l.t, fun a e1 e2 => ?_⟩ Q fun v B2 H2 l2 hv => q v B1 H2 ⟨Ex.refl B1, l.h.trans l2.ex, l2.k, l2.t, fun a e1 e2 => absurd e1 e2⟩ (sc hv)
  · unfold upd at e ⊢
    split at e
    · rename_i z; rw [if_pos z]; exact e
    · rename_i z; rw [if_neg z]; exact l.b a u e
  · by_cases z : a = p
    · rw [z, upd_same] at e1; cases e1
    · rw [upd_ne z] at e1 e2; exact l.n a e1 e2
end
end MA

set_option maxRecDepth 100000
set_option maxHeartbeats 2000000
namespace MA
open PySem PySem.Spec PyProof.Rows L2

/-! ## operators whatever the operands are -/
section
variable {X : Cx}
def rAddA (K : PySem.W.Frag) : R2 := fun x y H Q => (rI0 (fun i j => .int (i + j))) x y H Q ∨ ((∃ i j, x = .str i ∧ y = .str j ∧ i.length + j.length ≤ sizeLine ∧ Q (.str (i ++ j)) H) ∨ (rCatA K x y H Q ∨ rCat x y H Q))
theorem op_addA : OpR X (binaryOp .Add) (rAddA X.K) := op_add.or (op_add_str.or (op_catA.or op_cat))
def rMulA (K : PySem.W.Frag) : R2 := fun x y H Q => (rI CMul fun i j => .int (i * j)) x y H Q ∨ (rRepT K x y H Q ∨ rRep x y H Q)
theorem op_mulA : OpR X (binaryOp .Mult) (rMulA X.K) := op_mul.or (op_repT.or op_rep)
/-- == where one side is the empty list or the empty tuple -/
def rEq0 (K : PySem.W.Frag) (neg : Bool) : R2 := fun x y H Q => ∃ a b xs, x = .ref a ∧ y = .ref b ∧ ((SqL K H a xs ∧ SqL K H b []) ∨ (SqT K H a xs ∧ SqT K H b [])) ∧ Q (.bl (xor neg xs.isEmpty)) H
theorem op_eq0 (hu : X.A.units < cLine) : OpR X (compareOp .Eq) (rEq0 X.K false) := by
  intro pins s σ H x y v u Q I rx ry h
  obtain ⟨a, b, xs, rfl, rfl, hk, q⟩ := h
  cases rx
  cases ry
  rw [Bool.false_xor] at q
  rcases hk with ⟨h1, h2⟩ | ⟨h1, h2⟩
  · obtain ⟨its, rv, p1, _⟩ := I.list h1
    obtain ⟨jts, rw', p2, _⟩ := I.list h2
    have e2 := rw'.length
    have e1 := rv.length
    cases jts with
    | cons _ _ => simp at e2
    | nil =>
      cases xs with
      | nil =>
        cases its with
        | cons _ _ => simp at e1
        | nil => exact SeqAt.eq_listAt (e := fun _ => true) p1.isList p2.isList rfl hu (fun j h1 _ => by simp at h1) ⟨.bl _, H, I, rfl, by simpa using q⟩
      | cons x0 xr =>
        cases its with
        | nil => simp at e1
        | cons i0 ir => exact SeqAt.eq_list_lengthsAt p1.isList p2.isList (by simp) hu ⟨.bl _, H, I, rfl, by simpa using q⟩
  · obtain ⟨its, rv, p1, _⟩ := I.tuple h1
    obtain ⟨jts, rw', p2, _⟩ := I.tuple h2
    have e2 := rw'.length
    have e1 := rv.length
    cases jts with
    | cons _ _ => simp at e2
    | nil =>
      refine SeqAt.eq_tupleAt (e := fun _ => true) p1 p2 hu (fun j _ h2 => by simp at h2) ⟨.bl _, H, I, rfl, ?_⟩
      cases xs with
      | nil =>
        cases its with
        | cons _ _ => simp at e1
        | nil => simpa using q
      | cons x0 xr =>
        cases its with
        | nil => simp at e1
        | cons i0 ir => simpa using q
theorem op_ne0 (hu : X.A.units < cLine) : OpR X (compareOp .NotEq) (rEq0 X.K true) := by
  intro pins s σ H x y v u Q I rx ry h
  obtain ⟨a, b, xs, rfl, rfl, hk, q⟩ := h
  cases rx
  cases ry
  rw [Bool.true_xor] at q
  rcases hk with ⟨h1, h2⟩ | ⟨h1, h2⟩
  · obtain ⟨its, rv, p1, _⟩ := I.list h1
    obtain ⟨jts, rw', p2, _⟩ := I.list h2
    have e2 := rw'.length
    have e1 := rv.length
    cases jts with
    | cons _ _ => simp at e2
    | nil =>
      cases xs with
      | nil =>
        cases its with
        | cons _ _ => simp at e1
        | nil => exact SeqAt.RcNeAt.lists (e := fun _ => true) p1.isList p2.isList rfl hu (fun j h1 _ => by simp at h1) _ _ _ _ ⟨.bl _, H, I, rfl, by simpa using q⟩
      | cons x0 xr =>
        cases its with
        | nil => simp at e1
        | cons i0 ir => exact SeqAt.RcNeAt.lists_lengths p1.isList p2.isList (by simp) hu _ _ _ _ ⟨.bl _, H, I, rfl, by simpa using q⟩
  · obtain ⟨its, rv, p1, _⟩ := I.tuple h1
    obtain ⟨jts, rw', p2, _⟩ := I.tuple h2
    have e2 := rw'.length
    have e1 := rv.length
    cases jts with
    | cons _ _ => simp at e2
    | nil =>
      refine SeqAt.RcNeAt.tuples (e := fun _ => true) p1 p2 hu (fun j _ h2 => by simp at h2) _ _ _ _ ⟨.bl _, H, I, rfl, ?_⟩
      cases xs with
      | nil =>
        cases its with
        | cons _ _ => simp at e1
        | nil => simpa using q
      | cons x0 xr =>
        cases its with
        | nil => simp at e1
        | cons i0 ir => simpa using q
def rEqA (K : PySem.W.Frag) : R2 := fun x y H Q => rEq x y H Q ∨ rEq0 K false x y H Q
theorem op_eqA (hu : X.A.units < cLine) : OpR X (compareOp .Eq) (rEqA X.K) := op_eq.or (op_eq0 hu)
def rNeA (K : PySem.W.Frag) : R2 := fun x y H Q => rNe x y H Q ∨ rEq0 K true x y H Q
theorem op_neA (hu : X.A.units < cLine) : OpR X (compareOp .NotEq) (rNeA X.K) := op_ne.or (op_ne0 hu)
def rSlAny (K : PySem.W.Frag) : V → Option Int → Option Int → Hp → VK → Prop := fun x lo hi H Q => rSlA K x lo hi H Q ∨ (rSlL K x lo hi H Q ∨ rSlS x lo hi H Q)
theorem sl_any : SlR X (rSlAny X.K) := sl_tupA.or (sl_list.or sl_str)
end
end MA

set_option maxRecDepth 100000
set_option maxHeartbeats 2000000
namespace MA
open PySem PySem.Spec PyProof.Rows L2

/-! ## the rules by values, in plain data -/
def cutG {α : Type} (xs : List α) (lo hi : Option Int) : List α := (xs.drop (HT.sIx xs.length 0 lo)).take (HT.sIx xs.length xs.length hi - HT.sIx xs.length 0 lo)
section
variable {K : PySem.W.Frag} {B H : Hp}
theorem DqAll.cut {vs : List V} {ds : List PyData} (q : DqAll K H vs ds) (lo hi : Option Int) : DqAll K H (cutV vs lo hi) (cutG ds lo hi) := by
  unfold cutV cutG
  rw [q.length]
  exact (q.drop _).take _
theorem rv_addI {i j : Int} : RV K (rAddA K) (.int i) (.int j) (.int (i + j)) := fun B H v u e hv hu Q q => by
  cases hv; cases hu
  exact .inl ⟨i, j, rfl, rfl, q _ B H (Le.refl e) (.int _)⟩
theorem rv_addS {i j : Str} (hz : i.length + j.length ≤ sizeLine) : RV K (rAddA K) (.str i) (.str j) (.str (i ++ j)) := fun B H v u e hv hu Q q => by
  cases hv; cases hu
  exact .inr (.inl ⟨i, j, rfl, rfl, hz, q _ B H (Le.refl e) (.str _)⟩)
theorem rv_addT {as bs : List PyData} (hz : as.length + bs.length ≤ sizeLine) : RV K (rAddA K) (.tuple as) (.tuple bs) (.tuple (as ++ bs)) := fun B H v u e hv hu Q q => by
  cases hv with
  | tup h1 q1 =>
    cases hu with
    | tup h2 q2 =>
      rename_i a xs b ys
      refine .inr (.inr (.inl ⟨a, b, xs, ys, rfl, rfl, Evl.ex_t e h1, Evl.ex_t e h2, by rw [q1.length, q2.length]; exact hz, fun z => ?_, fun z1 z2 => ?_, fun z1 z2 p hp => ?_⟩))
      · subst z
        cases q1
        exact q _ B H (Le.refl e) (.tup h2 q2)
      · subst z2
        cases q2
        rw [List.append_nil] at q
        exact q _ B H (Le.refl e) (.tup h1 q1)
      · exact q _ _ _ (Le.new e hp) (.tup (.inl (.inl upd_same)) ((q1.append q2).mono (Le.new (M := []) e hp).b))
theorem rv_addL {as bs : List PyData} (hz : as.length + bs.length ≤ sizeLine) : RV K (rAddA K) (.list as) (.list bs) (.list (as ++ bs)) := fun B H v u e hv hu Q q => by
  cases hv with
  | lst h1 q1 =>
    cases hu with
    | lst h2 q2 =>
      refine .inr (.inr (.inr ⟨_, _, _, _, rfl, rfl, e _ _ h1, e _ _ h2, by rw [q1.length, q2.length]; exact hz, fun p hp => ?_⟩))
      exact q _ _ _ (Le.new e hp) (.lst upd_same ((q1.append q2).mono (Le.new (M := []) e hp).b))
theorem rv_int {C : Int → Int → Prop} {g : Int → Int → Int} {i j : Int} (c : C i j) : RV K (rI C fun i j => .int (g i j)) (.int i) (.int j) (.int (g i j)) := fun B H v u e hv hu Q q => by
  cases hv; cases hu
  exact ⟨i, j, rfl, rfl, c, q _ B H (Le.refl e) (.int _)⟩
theorem rv_int0 {g : Int → Int → Int} {i j : Int} : RV K (rI0 fun i j => .int (g i j)) (.int i) (.int j) (.int (g i j)) := fun B H v u e hv hu Q q => by
  cases hv; cases hu
  exact ⟨i, j, rfl, rfl, q _ B H (Le.refl e) (.int _)⟩
theorem rv_cmp {g : Int → Int → Bool} {i j : Int} : RV K (rI0 fun i j => .bl (g i j)) (.int i) (.int j) (.bool (g i j)) := fun B H v u e hv hu Q q => by
  cases hv; cases hu
  exact ⟨i, j, rfl, rfl, q _ B H (Le.refl e) (.bl _)⟩
theorem rv_mulI {i j : Int} (c : CMul i j) : RV K (rMulA K) (.int i) (.int j) (.int (i * j)) := fun B H v u e hv hu Q q => by
  cases hv; cases hu
  exact .inl ⟨i, j, rfl, rfl, c, q _ B H (Le.refl e) (.int _)⟩
theorem rv_mulT {ds : List PyData} {k : Int} (h0 : ds ≠ []) (h2 : 2 ≤ k) (h3 : k ≤ 1000) (h4 : ds.length ≤ 1000) : RV K (rMulA K) (.tuple ds) (.int k) (.tuple (List.replicate k.toNat ds).flatten) := fun B H v u e hv hu Q q => by
  cases hu
  cases hv with
  | tup h1 q1 =>
    refine .inr (.inl ⟨_, k, _, rfl, rfl, Evl.ex_t e h1, fun z => ?_, h2, h3, by rw [q1.length]; exact h4, fun p hp => ?_⟩)
    · subst z; cases q1; exact h0 rfl
    · exact q _ _ _ (Le.new e hp) (.tup (.inl (.inl upd_same)) ((q1.flatRep _).mono (Le.new (M := []) e hp).b))
/-! comparisons -/
theorem rv_eqI {i j : Int} : RV K (rEqA K) (.int i) (.int j) (.bool (decide (i = j))) := fun B H v u e hv hu Q q => by
  cases hv; cases hu
  refine .inl ⟨rfl, ?_⟩
  have h : decide (V.int i = V.int j) = decide (i = j) := by rw [dec_int]; by_cases z : i = j <;> simp [z]
  rw [h]
  exact q _ B H (Le.refl e) (.bl _)
theorem rv_neI {i j : Int} : RV K (rNeA K) (.int i) (.int j) (.bool (!decide (i = j))) := fun B H v u e hv hu Q q => by
  cases hv; cases hu
  refine .inl ⟨rfl, ?_⟩
  have h : decide (V.int i = V.int j) = decide (i = j) := by rw [dec_int]; by_cases z : i = j <;> simp [z]
  rw [h]
  exact q _ B H (Le.refl e) (.bl _)
theorem dec_strV {i j : Str} : decide (V.str i = V.str j) = decide (i = j) := by
  by_cases z : i = j
  · rw [z]; simp
  · rw [decide_eq_false z, decide_eq_false (fun e => z (V.str.inj e))]
theorem rv_eqS {i j : Str} : RV K (rEqA K) (.str i) (.str j) (.bool (decide (i = j))) := fun B H v u e hv hu Q q => by
  cases hv; cases hu
  refine .inl ⟨rfl, ?_⟩
  rw [dec_strV]
  exact q _ B H (Le.refl e) (.bl _)
theorem rv_neS {i j : Str} : RV K (rNeA K) (.str i) (.str j) (.bool (!decide (i = j))) := fun B H v u e hv hu Q q => by
  cases hv; cases hu
  refine .inl ⟨rfl, ?_⟩
  rw [dec_strV]
  exact q _ B H (Le.refl e) (.bl _)
theorem empty_iff {vs : List V} {ds : List PyData} (q : DqAll K H vs ds) : vs.isEmpty = ds.isEmpty := by
  cases q <;> rfl
theorem rv_eqL0 {ds : List PyData} : RV K (rEqA K) (.list ds) (.list []) (.bool ds.isEmpty) := fun B H v u e hv hu Q q => by
  cases hv with
  | lst h1 q1 =>
    cases hu with
    | lst h2 q2 =>
      cases q2
      refine .inr ⟨_, _, _, rfl, rfl, .inl ⟨.inl (.inl (e _ _ h1)), .inl (.inl (e _ _ h2))⟩, ?_⟩
      rw [Bool.false_xor, empty_iff q1]
      exact q _ B H (Le.refl e) (.bl _)
theorem rv_neL0 {ds : List PyData} : RV K (rNeA K) (.list ds) (.list []) (.bool (!ds.isEmpty)) := fun B H v u e hv hu Q q => by
  cases hv with
  | lst h1 q1 =>
    cases hu with
    | lst h2 q2 =>
      cases q2
      refine .inr ⟨_, _, _, rfl, rfl, .inl ⟨.inl (.inl (e _ _ h1)), .inl (.inl (e _ _ h2))⟩, ?_⟩
      rw [Bool.true_xor, empty_iff q1]
      exact q _ B H (Le.refl e) (.bl _)
theorem rv_eqT0 {ds : List PyData} : RV K (rEqA K) (.tuple ds) (.tuple []) (.bool ds.isEmpty) := fun B H v u e hv hu Q q => by
  cases hv with
  | tup h1 q1 =>
    cases hu with
    | tup h2 q2 =>
      cases q2
      refine .inr ⟨_, _, _, rfl, rfl, .inr ⟨Evl.ex_t e h1, Evl.ex_t e h2⟩, ?_⟩
      rw [Bool.false_xor, empty_iff q1]
      exact q _ B H (Le.refl e) (.bl _)
/-! in a row of ints, of texts -/
theorem inV_ints (i : Int) : ∀ ns : List Int, inV (.int i) (ns.map V.int) = decide (i ∈ ns)
  | [] => by simp [inV]
  | n :: r => by
    have h := inV_ints i r
    unfold inV at h ⊢
    rw [List.map_cons, List.any_cons, h]
    by_cases z : i = n
    · subst z; simp [eqV]
    · have z' : ¬ n = i := fun e => z e.symm
      simp [eqV, z, z']
theorem flat_ints (ns : List Int) : (ns.map V.int).all flatV = true := by
  induction ns with
  | nil => rfl
  | cons n r ih => rw [List.map_cons, List.all_cons, ih]; rfl
theorem inV_strs (i : Str) : ∀ ns : List Str, inV (.str i) (ns.map V.str) = decide (i ∈ ns)
  | [] => by simp [inV]
  | n :: r => by
    have h := inV_strs i r
    unfold inV at h ⊢
    rw [List.map_cons, List.any_cons, h]
    by_cases z : i = n
    · subst z; simp [eqV]
    · have z' : ¬ n = i := fun e => z e.symm
      simp [eqV, z, z']
theorem rv_inTI {i : Int} {ns : List Int} : RV K (rIn K false) (.int i) (.tuple (ns.map PyData.int)) (.bool (decide (i ∈ ns))) := fun B H v u e hv hu Q q => by
  cases hv
  cases hu with
  | tup h1 q1 =>
    cases ofInts q1
    refine ⟨_, _, rfl, .inr (Evl.ex_t e h1), rfl, flat_ints ns, ?_⟩
    rw [if_neg Bool.false_ne_true, inV_ints]
    exact q _ B H (Le.refl e) (.bl _)
theorem rv_notInTI {i : Int} {ns : List Int} : RV K (rIn K true) (.int i) (.tuple (ns.map PyData.int)) (.bool (!decide (i ∈ ns))) := fun B H v u e hv hu Q q => by
  cases hv
  cases hu with
  | tup h1 q1 =>
    cases ofInts q1
    refine ⟨_, _, rfl, .inr (Evl.ex_t e h1), rfl, flat_ints ns, ?_⟩
    rw [if_pos rfl, inV_ints]
    exact q _ B H (Le.refl e) (.bl _)
theorem rv_inLI {i : Int} {ns : List Int} : RV K (rIn K false) (.int i) (.list (ns.map PyData.int)) (.bool (decide (i ∈ ns))) := fun B H v u e hv hu Q q => by
  cases hv
  cases hu with
  | lst h1 q1 =>
    cases ofInts q1
    refine ⟨_, _, rfl, .inl (.inl (.inl (e _ _ h1))), rfl, flat_ints ns, ?_⟩
    rw [if_neg Bool.false_ne_true, inV_ints]
    exact q _ B H (Le.refl e) (.bl _)
theorem rv_notInLI {i : Int} {ns : List Int} : RV K (rIn K true) (.int i) (.list (ns.map PyData.int)) (.bool (!decide (i ∈ ns))) := fun B H v u e hv hu Q q => by
  cases hv
  cases hu with
  | lst h1 q1 =>
    cases ofInts q1
    refine ⟨_, _, rfl, .inl (.inl (.inl (e _ _ h1))), rfl, flat_ints ns, ?_⟩
    rw [if_pos rfl, inV_ints]
    exact q _ B H (Le.refl e) (.bl _)
theorem rv_inLS {i : Str} {ns : List Str} : RV K (rIn K false) (.str i) (.list (ns.map PyData.str)) (.bool (decide (i ∈ ns))) := fun B H v u e hv hu Q q => by
  cases hv
  cases hu with
  | lst h1 q1 =>
    cases ofStrs q1
    refine ⟨_, _, rfl, .inl (.inl (.inl (e _ _ h1))), rfl, flat_strs ns, ?_⟩
    rw [if_neg Bool.false_ne_true, inV_strs]
    exact q _ B H (Le.refl e) (.bl _)
theorem rv_notInTS {i : Str} {ns : List Str} : RV K (rIn K true) (.str i) (.tuple (ns.map PyData.str)) (.bool (!decide (i ∈ ns))) := fun B H v u e hv hu Q q => by
  cases hv
  cases hu with
  | tup h1 q1 =>
    cases ofStrs q1
    refine ⟨_, _, rfl, .inr (Evl.ex_t e h1), rfl, flat_strs ns, ?_⟩
    rw [if_pos rfl, inV_strs]
    exact q _ B H (Le.refl e) (.bl _)
/-! subscripts -/
theorem atI_dq {vs : List V} {ds : List PyData} {i : Int} {d : PyData} (q : DqAll K H vs ds) (h : atI ds i = some d) : ∃ v, atI vs i = some v ∧ Dq K H v d := by
  unfold atI at h ⊢
  rw [q.length]
  cases e : ixN ds.length i with
  | none => rw [e] at h; cases h
  | some j =>
    rw [e] at h
    exact q.get' h
theorem rv_ixT {ds : List PyData} {i : Int} {d : PyData} (h : atI ds i = some d) : RV K (rIx K) (.tuple ds) (.int i) d := fun B H v u e hv hu Q q => by
  cases hu
  cases hv with
  | tup h1 q1 =>
    obtain ⟨w, hw, hd⟩ := atI_dq q1 h
    exact .inr (.inl ⟨_, _, i, w, rfl, rfl, Evl.ex_t e h1, hw, q w B H (Le.refl e) hd⟩)
theorem rv_ixL {ds : List PyData} {i : Int} {d : PyData} (h : atI ds i = some d) : RV K (rIx K) (.list ds) (.int i) d := fun B H v u e hv hu Q q => by
  cases hu
  cases hv with
  | lst h1 q1 =>
    obtain ⟨w, hw, hd⟩ := atI_dq q1 h
    exact .inl ⟨_, _, i, w, rfl, rfl, .inl (.inl (e _ _ h1)), hw, q w B H (Le.refl e) hd⟩
theorem rs_T {ds : List PyData} {lo hi : Option Int} : RS K (rSlAny K) (.tuple ds) lo hi (.tuple (cutG ds lo hi)) := fun B H v e hv Q q => by
  cases hv with
  | tup h1 q1 =>
    refine .inl ⟨_, _, rfl, Evl.ex_t e h1, fun z => ?_, fun z p hp => ?_⟩
    · have e1 : cutG ds lo hi = ds := by
        unfold cutG
        rw [q1.length] at z
        rw [z.1, z.2, List.drop_zero, Nat.sub_zero]
        exact List.take_length
      rw [e1] at q
      exact q _ B H (Le.refl e) (.tup h1 q1)
    · exact q _ _ _ (Le.new e hp) (.tup (.inl (.inl upd_same)) ((q1.cut lo hi).mono (Le.new (M := []) e hp).b))
theorem rs_L {ds : List PyData} {lo hi : Option Int} : RS K (rSlAny K) (.list ds) lo hi (.list (cutG ds lo hi)) := fun B H v e hv Q q => by
  cases hv with
  | lst h1 q1 => exact .inr (.inl ⟨_, _, rfl, .inl (.inl (e _ _ h1)), fun p hp => q _ _ _ (Le.new e hp) (.lst upd_same ((q1.cut lo hi).mono (Le.new (M := []) e hp).b))⟩)
theorem rs_S {x : Str} {lo hi : Option Int} (hz : x.length ≤ sizeLine) : RS K (rSlAny K) (.str x) lo hi (.str (cutS x lo hi)) := fun B H v e hv Q q => by
  cases hv
  exact .inr (.inr ⟨x, rfl, hz, q _ B H (Le.refl e) (.str _)⟩)
/-! calls of built-ins -/
def rLenA (K : PySem.W.Frag) : List V → Hp → VK → Prop := fun xs H Q => ∃ p ys, xs = [V.ref p] ∧ (SqL K H p ys ∨ SqT K H p ys) ∧ Q (.int ys.length) H
theorem rc_lenT {ds : List PyData} : RC K (rLenA K) [.tuple ds] (.int ds.length) := fun B H vs e hv Q q => by
  cases hv with
  | cons h1 h2 =>
    cases h2
    cases h1 with
    | tup h q1 => exact ⟨_, _, rfl, .inr (Evl.ex_t e h), by rw [q1.length]; exact q _ B H (Le.refl e) (.int _)⟩
theorem rc_lenL {ds : List PyData} : RC K (rLenA K) [.list ds] (.int ds.length) := fun B H vs e hv Q q => by
  cases hv with
  | cons h1 h2 =>
    cases h2
    cases h1 with
    | lst h q1 => exact ⟨_, _, rfl, .inl (.inl (.inl (e _ _ h))), by rw [q1.length]; exact q _ B H (Le.refl e) (.int _)⟩
theorem rc_all {bs : List Bool} : RC K (rAll K) [.list (bs.map PyData.bool)] (.bool (bs.all id)) := fun B H vs e hv Q q => by
  cases hv with
  | cons h1 h2 =>
    cases h2
    cases h1 with
    | lst h q1 =>
      cases ofBls q1
      exact ⟨_, bs, rfl, .inl (.inl (e _ _ h)), q _ B H (Le.refl e) (.bl _)⟩
def tyN : PyData → String
  | .none => "NoneType"
  | .bool _ => "bool"
  | .int _ => "int"
  | .str _ => "str"
  | .list _ => "list"
  | .tuple _ => "tuple"
  | .dict _ => "dict"
theorem tyX_of {v : V} {d : PyData} (h : Dq K H v d) : TyX K H v (.type (tyN d)) := by
  cases h with
  | non => exact .base .non
  | bl b => exact .base (.bl b)
  | int i => exact .base (.int i)
  | str x => exact .base (.str x)
  | lst h q => exact .base (.lst h)
  | tup h q =>
    rcases h with (h | ⟨o, h⟩) | ⟨o, its, n, hk, hc, _⟩
    · exact .base (.tup h)
    · exact .fTuple h
    · exact .kTuple hk hc
  | dct h q => exact .base (.dK h)
/-- isinstance(x, T): the class is no plain datum, so the call is told as a whole -/
def isNS (a T : String) : Bool := (a == T) || (a == "bool" && T == "int")
def isN (T : String) (d : PyData) : Bool := isNS (tyN d) T
theorem kit_all : ∀ a ∈ ["NoneType", "bool", "int", "str", "list", "tuple", "dict"], ∀ T ∈ ["int", "bool", "tuple", "str", "dict", "list"], kitB a T = some (isNS a T) := by decide +kernel
theorem tyN_mem (d : PyData) : tyN d ∈ ["NoneType", "bool", "int", "str", "list", "tuple", "dict"] := by cases d <;> simp [tyN]
theorem kit_is {d : PyData} {T : String} (hT : T = "int" ∨ T = "bool" ∨ T = "tuple" ∨ T = "str" ∨ T = "dict" ∨ T = "list") : kitB (tyN d) T = some (isN T d) := 
  kit_all _ (tyN_mem d) T (by rcases hT with rfl | rfl | rfl | rfl | rfl | rfl <;> simp)
theorem ev_isi {te : TE} {σ : L2.St} {d : PyData} {T : String} (h : Ev K te σ B H d) (hT : T = "int" ∨ T = "bool" ∨ T = "tuple" ∨ T = "str" ∨ T = "dict" ∨ T = "list") :
    Ev K (tCB (rIsi K) (tCons te (tCons (tC (.ty T)) tNil))) σ B H (.bool (isN T d)) := fun B1 H1 l Q q =>
  h B1 H1 l _ fun v B2 H2 l2 hv => ⟨v, .ty T, .type (tyN d), .type T, isN T d, rfl, .ty T, tyX_of (hv.mono l2.h), kit_ty (kit_is hT), q _ B2 H2 l2 (.bl _)⟩
def rTupA (K : PySem.W.Frag) : List V → Hp → VK → Prop := fun xs H Q => ∃ p ys, xs = [V.ref p] ∧ ((SqL K H p ys ∧ ∀ l, H l = none → Q (.ref l) (upd H l (.tup ys))) ∨ (SqT K H p ys ∧ Q (.ref p) H))
theorem rc_tupL {ds : List PyData} : RC K (rTupA K) [.list ds] (.tuple ds) := fun B H vs e hv Q q => by
  cases hv with
  | cons h1 h2 =>
    cases h2
    cases h1 with
    | lst h q1 => exact ⟨_, _, rfl, .inl ⟨.inl (.inl (e _ _ h)), fun p hp => q _ _ _ (Le.new e hp) (.tup (.inl (.inl upd_same)) (q1.mono (Le.new (M := []) e hp).b))⟩⟩
def rLstA (K : PySem.W.Frag) : List V → Hp → VK → Prop := fun xs H Q => ∃ p ys, xs = [V.ref p] ∧ (SqL K H p ys ∨ SqT K H p ys) ∧ ∀ l, H l = none → Q (.ref l) (upd H l (.lst ys))
theorem rc_lstT {ds : List PyData} : RC K (rLstA K) [.tuple ds] (.list ds) := fun B H vs e hv Q q => by
  cases hv with
  | cons h1 h2 =>
    cases h2
    cases h1 with
    | tup h q1 => exact ⟨_, _, rfl, .inr (Evl.ex_t e h), fun p hp => q _ _ _ (Le.new e hp) (.lst upd_same (q1.mono (Le.new (M := []) e hp).b))⟩
theorem rc_lstL {ds : List PyData} : RC K (rLstA K) [.list ds] (.list ds) := fun B H vs e hv Q q => by
  cases hv with
  | cons h1 h2 =>
    cases h2
    cases h1 with
    | lst h q1 => exact ⟨_, _, rfl, .inl (.inl (.inl (e _ _ h))), fun p hp => q _ _ _ (Le.new e hp) (.lst upd_same (q1.mono (Le.new (M := []) e hp).b))⟩
end
end MA

set_option maxRecDepth 100000
set_option maxHeartbeats 2000000
namespace MA
open PySem PySem.Spec PyProof.Rows L2 HT

/-! ## t[::-1] of a tuple -/
section
variable {prog : Program} {w : World} {A : Around} {E : Value → Shared → Prop} {s : Shared}
theorem fm_congr {α β : Type} {f g : α → Option β} : ∀ {l : List α}, (∀ a ∈ l, f a = g a) → l.filterMap f = l.filterMap g
  | [], _ => rfl
  | a :: l, h => by
    rw [List.filterMap_cons, List.filterMap_cons, h a (List.mem_cons_self ..), fm_congr fun b hb => h b (List.mem_cons_of_mem _ hb)]
theorem back_picks (xs : Array Value) : ((List.range xs.size).filterMap fun (m : Nat) => xs[(((xs.size : Int) - 1) + (m : Int) * (-1)).toNat]?).toArray = xs.toList.reverse.toArray := by
  have h := PySem.W.krv_pick xs
  unfold slicePick at h
  rw [PySem.W.krv_bounds] at h
  rw [← h]
  show _ = ((sliceRange ((xs.size : Int) - 1) (-1) (-1)).filterMap (xs[·]?)).toArray
  rw [PySem.W.krv_sliceRange, List.filterMap_map]
  refine congrArg List.toArray (fm_congr fun m hm => ?_)
  have hlt := List.mem_range.mp hm
  show xs[_]? = xs[xs.size - 1 - m]?
  congr 1
  omega
theorem back_applied {sl : Addr} {t : Tok} {n : Nat} {Q : Int × Int × Nat → Shared → Prop} (hs : s.heap.IsSliceOf sl .none .none (.int (-1) t)) (h : Q ((n : Int) - 1, -1, n) s) :
    wpAny (model prog w) A (Builtin.Slice.sliceApplied (.ref sl) (pure (n : Int))) Q E s := by
  obtain ⟨os, h1, h2, h3⟩ := id hs
  unfold Builtin.Slice.sliceApplied Builtin.Slice.sliceFields
  refine wpAny_bind (wpAny_bind (wpAny_field h1 h3 (x := .none) rfl (wpAny_bind (wpAny_field h1 h3 (x := .none) rfl (wpAny_bind (wpAny_field h1 h3 (x := .int (-1) t) rfl (wpAny_pure ?_)))))))
  refine wpAny_bind (slicePart_int ?_)
  show wpAny _ _ (if ((-1 : Int) == 0) = true then _ else _) _ _ s
  rw [if_neg (by decide)]
  refine wpAny_bind (slicePart_none (wpAny_bind (slicePart_none (wpAny_bind (wpAny_pure ?_)))))
  show wpAny _ _ (match Builtin.Slice.sliceAdjust none none (-1) (n : Int) with | (lo, hi) => pure (lo, (-1 : Int), Builtin.Slice.slicePlaces lo hi (-1))) _ _ s
  have e1 : Builtin.Slice.sliceAdjust none none (-1) (n : Int) = ((n : Int) - 1, -1) := by simp [Builtin.Slice.sliceAdjust]
  rw [e1]
  show wpAny _ _ (pure ((n : Int) - 1, (-1 : Int), Builtin.Slice.slicePlaces ((n : Int) - 1) (-1) (-1))) _ _ s
  have e2 : Builtin.Slice.slicePlaces ((n : Int) - 1) (-1) (-1) = n := by
    unfold Builtin.Slice.slicePlaces
    rw [if_neg (by decide)]
    split
    · rw [show (- -1 : Int) = 1 by decide, Int.ediv_one]; omega
    · omega
  rw [e2]
  exact wpAny_pure h
theorem getItem_back {a sl : Addr} {items : Array Value} {t : Tok} {Q : Value → Shared → Prop} (ht : IsTup s.heap a items) (hs : s.heap.IsSliceOf sl .none .none (.int (-1) t))
    (h : Q (.ref s.heap.objs.size) { s with heap := s.heap.push { cls := .type "tuple", data := .seq items.toList.reverse.toArray } }) (hz : items.size ≤ sizeLine) : wpAny (model prog w) A (getItem (.ref a) (.ref sl)) Q E s := by
  have hfit : sizeOk (.seq items.toList.reverse.toArray) := by
    show items.toList.reverse.toArray.size ≤ sizeLine
    rw [List.size_toArray, List.length_reverse, Array.length_toList]
    exact hz
  have hty : s.TypeIs (.ref sl) "slice" := let ⟨os, h1, h2, _⟩ := hs; ⟨os, h1, h2⟩
  unfold getItem
  try with_reducible refine wpAny_holding ?_
  first | refine wpAny_bind (wpAny_pure ?_) | skip
  refine wpAny_bind (wpAny_sequenceKey ht.typeIs (by decide) ?_)
  refine wpAny_bind (wpAny_callSpecial?_slot (name := Str.ofString "__getitem__") ht.typeIs PyProof.Rows.slot_tuple_getitem
    (wpAny_call_entry PyProof.Rows.slot_tuple_getitem ht.typeIs entry_tuple_getitem ?_ (args_tuple_getitem _ _)))
  refine wpAny_bind (m := Builtin.Tuple.tupleItemsOf (.ref a)) (tupleItemsOf_ ht ?_)
  refine wpAny_bind (wpAny_typeOf hty ?_)
  rw [if_pos (by decide)]
  refine wpAny_bind (back_applied hs ?_)
  show wpAny _ _ (if (((items.size : Int) - 1) == 0 && (-1 : Int) == 1 && items.size == items.size) = true then _ else _) _ _ s
  have hno : ¬ (((items.size : Int) - 1) == 0 && (-1 : Int) == 1 && items.size == items.size) = true := by
    rw [show ((-1 : Int) == 1) = false by decide, Bool.and_false, Bool.false_and]
    exact Bool.false_ne_true
  rw [if_neg hno, back_picks]
  first
    | exact wpAny_bind (m := Builtin.Tuple.tupleExact _) (wpAny_newObj_type (wpAny_pure ⟨_, rfl, wpAny_pure h⟩) hfit)
    | exact wpAny_bind (m := Builtin.Tuple.tupleExact _) (wpAny_newObj_type (wpAny_bind (wpAny_pure (wpAny_pure ⟨_, rfl, wpAny_pure h⟩))) hfit)
    | exact wpAny_bind (wpAny_bind (m := Builtin.Tuple.tupleExact _) (wpAny_newObj_type (wpAny_pure (wpAny_pure ⟨_, rfl, wpAny_pure h⟩)) hfit))
    | exact wpAny_bind (wpAny_bind (m := Builtin.Tuple.tupleExact _) (wpAny_newObj_type (wpAny_pure ⟨_, rfl, wpAny_pure h⟩) hfit))
end
def tBack (K : PySem.W.Frag) (te : TE) : TE := fun σ H Q => te σ H fun x H1 => ∃ a xs, x = .ref a ∧ SqT K H1 a xs ∧ ∀ p, H1 p = none → Q (.ref p) (upd H1 p (.tup xs.reverse))
theorem pe_backT {X : Cx} {e : Expr} {te : TE} {k : Nat} {p1 p2 p3 pos : Pos} (he : PE X e te) : PE X (.Subscript e (.Slice none none (some (.UnaryOp .USub (.Constant (.int 1) k p1) p2)) p3) pos) (tBack X.K te) := by
  refine ⟨fun pins s σ H Q I h => ?_⟩
  refine Subscript_ (thn (he.run pins s σ H _ I h) fun v s1 ⟨x, H1, I1, r1, a, xs, ex, hx, q⟩ => ?_)
  subst ex
  cases r1
  have hst : PO X (some (.UnaryOp .USub (.Constant (.int 1) k p1) p2)) (tPart (tUn (rU fun i => .int (-i)) (tC (.int 1)))) := po_some (pe_un un_neg pe_int)
  refine wpAny_Slice (thn (po_none.run pins s1 σ H1 (fun o H2 => o = none ∧ H2 = H1) I1 ⟨rfl, rfl⟩) fun vl s2 ⟨l, H2, I2, pl, el, e2⟩ => ?_)
  subst el e2
  refine thn (po_none.run pins s2 σ H2 (fun o H3 => o = none ∧ H3 = H2) I2 ⟨rfl, rfl⟩) fun vu s3 ⟨u, H3, I3, pu, eu, e3⟩ => ?_
  subst eu e3
  refine thn (hst.run pins s3 σ H3 (fun o H4 => o = some (-1) ∧ H4 = H3) I3 ⟨1, rfl, -1, rfl, rfl, rfl⟩) fun vs s4 ⟨o, H4, I4, ps, eo, e4⟩ => ?_
  subst eo e4
  cases pl
  cases pu
  cases ps with
  | int _ t =>
    have I5 : Inv X pins σ H4 { s4 with heap := s4.heap.push { cls := .type "slice", data := .fields #[.none, .none, .int (-1) t] } } := I4.kept (t' := s4.toks) fun b ob q => Heap.get?_push_of_some _ q
    obtain ⟨its, r, ht, hz⟩ := I5.tuple hx
    have hlen := r.length
    show wpAny (model X.prog X.w) X.A (subscriptTail e (.Slice none none (some (.UnaryOp .USub (.Constant (.int 1) k p1) p2)) p3) (.ref a) (.ref s4.heap.objs.size)) (EP X pins σ Q) X.xe { s4 with heap := s4.heap.push { cls := .type "slice", data := .fields #[.none, .none, .int (-1) t] } }
    refine tail_any (ops := [.ref a, .ref s4.heap.objs.size]) ht.typeIs PyProof.Rows.slot_tuple_getitem.lookup ?_ (by with_unfolding_all rfl)
    refine getItem_back ht (Heap.IsSliceOf.new _ .none .none (.int (-1) t)) ?_ (by rw [List.size_toArray]; omega)
    refine ⟨.ref _, _, I5.laid (t' := s4.toks) (o := .tup xs.reverse) (fun b ob q => Heap.get?_push_of_some _ q) (Nat.le_refl _) ?_, rfl, q _ (I5.hok.fresh (Nat.le_refl _))⟩
    exact ⟨by rw [List.length_reverse]; exact hz, _, r.reverse, _, Heap.get?_push_size _ rfl, rfl, _, rfl⟩
theorem ev_back {K : PySem.W.Frag} {σ : L2.St} {B H : Hp} {te : TE} {ds : List PyData} (h : Ev K te σ B H (.tuple ds)) : Ev K (tBack K te) σ B H (.tuple ds.reverse) := fun B1 H1 l Q q =>
  h B1 H1 l _ fun v B2 H2 l2 hv => by
    cases hv with
    | tup h1 q1 => exact ⟨_, _, rfl, Evl.ex_t l2.h h1, fun p hp => q _ _ _ (l2.trans (Le.new l2.h hp)) (.tup (.inl (.inl upd_same)) (q1.reverse.mono (Le.new (M := []) l2.h hp).b))⟩
end MA

set_option maxRecDepth 100000
set_option maxHeartbeats 2000000
/-! enumerate(t) of a tuple -/
namespace PySem
open Sem (wp)
open AutoSeq1 (wpAny_loadPart')
theorem ma_drawsT {prog : Program} {w : World} {A : Around} (hh : A.handled = none) (it t : Addr) (hne : t ≠ it) (items : Array Value) :
    Draws prog w A it [it, t] items.size (fun i v => items[i]? = some v) (fun i h => h.IsTupleIter it t i ∧ h.IsTuple t items) where
  live := fun _ _ st => let ⟨⟨o, ho, _⟩, _⟩ := st; ⟨o, ho⟩
  frame := fun _ _ _ st hk => let ⟨x, ⟨o, ho, r⟩⟩ := st; ⟨x.at fun o e => hk it (by simp) o e, ⟨o, hk t (by simp) o ho, r⟩⟩
  item := fun i s Q E hi st hQ => RZ.nextOf_tuple_item st.1 st.2 (x := items[i]) (by simp [hi]) fun h' hit' hs' =>
    hQ _ h' s.toks (by simp [hi]) ⟨hit', let ⟨o, ho, r⟩ := st.2; ⟨o, (hs'.2 t hne).trans ho, r⟩⟩ hs'
  done := fun s Q E st hE => RZ.nextOf_tuple_end hh st.1 st.2 (by simp) hE
theorem ma_enumT (t : Addr) (items : Array Value) (n : Nat) (dct : Option Addr) (sl : Array (Option Value)) :
    Meets (Builtin.«enumerate.__new__» ⟨[.type "enumerate", .ref t], []⟩) (fun _ R s => s.heap.get? t = some { cls := .type "tuple", dict := dct, data := .seq items n, slots := sl } ∧
      R (.ok (.ret (.ref (Heap.push s.heap { cls := .type "tuple_iterator", data := .fields #[.ref t, .int 0 0] }).objs.size)))
        { s with heap := (s.heap.push { cls := .type "tuple_iterator", data := .fields #[.ref t, .int 0 0] }).push { cls := .type "enumerate", data := .fields #[.none, .bool false, .ref s.heap.objs.size, rawInt 0, .none, .none] } }) :=
  .of_wp fun prog w A R s h => by
    obtain ⟨hp, g, d, tk, os⟩ := s; obtain ⟨hl, h⟩ := h
    have hsub := sub_enumerate
    have hT : Heap.IsTuple (Shared.heap ⟨hp, g, d, tk, os⟩) t items := ⟨_, hl, rfl, n, rfl⟩
    wp_walk using wpAny_loadPart' hl
    refine wpAny_stack_any fun st => wpAny_pure ?_
    split
    · rename_i c _ _ _ _ _
      cases (c == Value.type "enumerate")
      · wp_walk using wpAny_loadPart' hl, wpAny_pyIter_tuple hT
        exact ⟨_, rfl, h⟩
      · wp_walk using wpAny_loadPart' hl, wpAny_pyIter_tuple hT
        exact ⟨_, rfl, h⟩
    · wp_walk using wpAny_loadPart' hl, wpAny_pyIter_tuple hT
      exact ⟨_, rfl, h⟩
theorem ma_call_enumT {prog : Program} {w : World} {A : Around} {E : Value → Shared → Prop} {s : Shared} {t : Addr} {items : Array Value} {Q : Value → Shared → Prop} (hT : s.heap.IsTuple t items)
    (h : ∀ h', IsEnum h' (s.heap.objs.size + 1) s.heap.objs.size 0 .none → h'.IsTupleIter s.heap.objs.size t 0 → (∀ b o, s.heap.get? b = some o → h'.get? b = some o) → Q (.ref (s.heap.objs.size + 1)) { s with heap := h' }) :
    wpAny (model prog w) A (call (.type "enumerate") [.ref t]) Q E s := by
  obtain ⟨⟨c, dct, dt, sl⟩, hl, hc, n, hd⟩ := hT
  cases (show c = .type "tuple" from hc)
  cases (show dt = .seq items n from hd)
  have hz : (s.heap.push { cls := .type "tuple_iterator", data := .fields #[.ref t, .int 0 0] }).objs.size = s.heap.objs.size + 1 := Heap.size_push ..
  refine callType_new F.called_enumerate (by decide) (F.typeCall_enumerate_1 _) (F.newCall_enumerate_1 _) (fun obj => F.args_object_init_2 obj _) F.entry_enumerate_new (ma_enumT t items n dct sl) ⟨hl, ?_⟩
  show _ ∧ _
  rw [hz]
  have he : IsEnum ((s.heap.push { cls := .type "tuple_iterator", data := .fields #[.ref t, .int 0 0] }).push { cls := .type "enumerate", data := .fields #[.none, .bool false, .ref s.heap.objs.size, rawInt 0, .none, .none] }) (s.heap.objs.size + 1) s.heap.objs.size 0 .none := by
    have z := Heap.get?_push_size (s.heap.push { cls := .type "tuple_iterator", data := .fields #[.ref t, .int 0 0] }) (o := { cls := .type "enumerate", data := .fields #[.none, .bool false, .ref s.heap.objs.size, rawInt 0, .none, .none] }) rfl
    rw [hz] at z
    exact z
  exact ⟨⟨_, he, rfl⟩, h _ he ⟨_, Heap.get?_push_of_some _ (Heap.get?_push_size _ rfl), rfl, rfl⟩ fun b o x => Heap.get?_push_of_some _ (Heap.get?_push_of_some _ x)⟩
end PySem
namespace MA
open PySem PySem.Spec PyProof.Rows L2
def ItE (K : PySem.W.Frag) (a : Addr) : It :=
  ⟨fun i H => ∃ (xs : List V) (x : V), SqT K H a xs ∧ xs[i]? = some x, fun i H v H' => ∃ T x, v = .ref T ∧ H T = none ∧ H' = upd H T (.tup [.int (i : Nat), x]) ∧ ∀ xs, SqT K H a xs → xs[i]? = some x, fun i H => ∃ xs : List V, SqT K H a xs ∧ xs.length ≤ i⟩
theorem turn_enumT {P : Program} {w : World} {K : PySem.W.Frag} {elts : List Expr} {kk : Nat} {tpos : Pos} (a e it : Addr) :
    Turn P w K (.Tuple elts kk tpos) (ItE K a) [e, it] e (fun i h => (∃ old, IsEnum h e it ((i : Nat) : Int) old) ∧ h.IsTupleIter it a i ∧ e ≠ it) where
  mem := by simp
  obj := fun i h st b hb => by
    obtain ⟨⟨old, he⟩, ⟨o, ho, hc, hd⟩, _⟩ := st
    rcases (show b = e ∨ b = it by simpa using hb) with z | z
    · rw [z]; exact ⟨_, he, fun v q => nomatch q⟩
    · rw [z]; exact ⟨o, ho, fun v q => by rw [hd] at q; cases q⟩
  keep := fun i h h' st k => let ⟨⟨old, he⟩, hi, hne⟩ := st; ⟨⟨old, k e (by simp) _ he⟩, hi.at fun o q => k it (by simp) o q, hne⟩
  item := by
    intro X hP hw hK hc i pins s σ H E I hf st hg
    subst hP hw hK
    obtain ⟨⟨old, he⟩, hit, hne⟩ := st
    obtain ⟨xs, x, hq, hx⟩ := hg
    obtain ⟨its, rv, p, hz⟩ := I.tuple hq
    obtain ⟨u, hu, ru⟩ := rv.get hx
    have hel : e < s.heap.objs.size := Heap.lt_size he
    have hil : it < s.heap.objs.size := by obtain ⟨_, q, _⟩ := hit; exact Heap.lt_size q
    have hae : a ≠ it := fun z => by
      obtain ⟨o, q, c, _⟩ := hit
      obtain ⟨o2, q2, c2, _⟩ := p
      rw [z, q] at q2; cases q2; rw [c] at c2; exact absurd (Value.type.inj c2) (by decide)
    have hae2 : a ≠ e := fun z => by
      obtain ⟨o2, q2, c2, _⟩ := p
      rw [z] at q2
      rw [show s.heap.get? e = some _ from he] at q2; cases q2; exact absurd (Value.type.inj c2) (by decide)
    have hlt : i < its.length := (List.getElem?_eq_some_iff.mp hu).1
    refine wpAny_pyNext_enum_itemD (ma_drawsT (A := X.A.in1) (I.ok.hd hc) it a hae its.toArray) he ⟨hit, p⟩ (by simpa using hlt) hne (by simp [hne, Ne.symm hae2]) fun y h' tk hy ho hst hT hsz hk => ?_
    have ey : u = y := by
      have hy' : its[i]? = some y := by simpa using hy
      rw [hu] at hy'
      exact Option.some.inj hy'
    subst ey
    refine ⟨_, rfl, wpAny_letOwnedTupleGo_enum (s := { s with heap := h', toks := tk + 1 }) ho fun h'' he' sb => ?_⟩
    have hT2 : h''.get? s.heap.objs.size = some { cls := .type "tuple", data := .seq #[.int i tk, u] } := (sb.2 _ (Nat.ne_of_gt hel)).trans hT
    have new : ObjOk X.prog X.w (upd H s.heap.objs.size (.tup [.int (i : Nat), x])) h'' s.heap.objs.size (.tup [.int (i : Nat), x]) :=
      ⟨by show 2 ≤ sizeLine; decide, [.int i tk, u], .cons ⟨_, rfl⟩ (.cons ru .nil), ⟨_, hT2, rfl, _, rfl⟩⟩
    have I1 : Inv X pins σ (upd H s.heap.objs.size (.tup [.int (i : Nat), x])) { s with heap := h'', toks := tk + 1 } :=
      I.turnedNew (ch := [e, it]) (fun b ob hb q => (sb.2 b (fun z => hb (by simp [z]))).trans (hk b ob (fun z => hb (by simp [z])) (fun z => hb (by simp [z])) q)) hf (Nat.le_refl _) new
    refine ⟨.ref s.heap.objs.size, _, I1, rfl, ⟨_, x, rfl, I.hok.fresh (Nat.le_refl _), rfl, fun ys hy => by rw [I.tuple_inj hy hq]; exact hx⟩, ⟨⟨u, ?_⟩, hst.1.at fun o q => (sb.2 it (Ne.symm hne)).trans q, hne⟩, fun b hb => ?_⟩
    · rw [show ((i + 1 : Nat) : Int) = (i : Int) + 1 by omega]
      exact he'
    · have hb' : b < s.heap.objs.size := by
        rcases (show b = e ∨ b = it by simpa using hb) with z | z
        · rw [z]; exact hel
        · rw [z]; exact hil
      rw [upd_ne (Nat.ne_of_lt hb')]
      exact (hf b hb).1
  done := by
    intro X hP hw hK hc i pins s σ H E I hf st hg
    subst hP hw hK
    obtain ⟨⟨old, he⟩, hit, hne⟩ := st
    obtain ⟨xs, hq, hx⟩ := hg
    obtain ⟨its, rv, p, hz⟩ := I.tuple hq
    obtain ⟨f0, f1, f2, f3, f4, f5⟩ := hf it (by simp)
    have hl := rv.length
    have hT : s.TypeIs (.ref e) "enumerate" := ⟨_, he, rfl⟩
    unfold pyNext
    refine wpAny_bind (wpAny_attempt (wpAny_callSpecial?_slot (name := Str.ofString "__next__") hT F.slot_enumerate_next (wpAny_call_entry F.slot_enumerate_next hT F.entry_enumerate_next ?_ (F.args_enumerate_next_1 _))))
    show wpAny _ _ (field (.ref e) 2 >>= _) _ _ _
    refine wpAny_bind (wpAny_field he rfl (x := .ref it) rfl ?_)
    refine wpAny_bind (RZ.nextOf_tuple_end (A := X.A.in1) (I.ok.hd hc) hit p (by simp; omega) fun h' x he' hx' => ?_)
    obtain ⟨o, ho, hc'⟩ := hx'
    refine wpAny_bind (wpAny_isInstance (T := "StopIteration") (b := true) ⟨o, ho, hc'⟩ isSubtype_stop ?_)
    exact wpAny_pure ⟨rfl, I.turned (t' := s.toks) (fun b o hb q => he' b o hb q) f0 f1 f3 f4 f5⟩
  self := fun A i s Q E st h => let ⟨⟨_, he⟩, _⟩ := st; wpAny_pyIter_enum he h
def iEnT (K : PySem.W.Frag) (ta : TA) : TI := fun σ H R => ta σ H fun vs H1 => ∃ a xs, vs = [.ref a] ∧ SqT K H1 a xs ∧ R (ItE K a) H1
theorem pi_enumT {X : Cx} {e : Expr} {ta : TA} {p pos tpos : Pos} {elts : List Expr} {kk : Nat} (hg : Gl X "enumerate") (hm : X.mg "enumerate" = none) (ha : PA X [e] ta) (hs : starEach [e] X.env = [(false, eval e X.env)] := by rfl) :
    PI X (.Tuple elts kk tpos) (.Call (.Name "enumerate" p) [e] [] pos) (iEnT X.K ta) := by
  refine ⟨fun pins s σ H R I h => ?_⟩
  refine Call_ (ld_blt I hg hm boot_enumerate (PyProof.Rows.callWith_type1 (thn (ha.run pos pins s σ H _ I h) fun us s1 ⟨vs, H1, I1, r1, a, xs, ex, hq, q⟩ => ?_) hs rfl))
  subst ex
  cases r1 with
  | cons r rr =>
    cases rr
    cases r
    obtain ⟨its, rv, p', hz⟩ := I1.tuple hq
    refine ma_call_enumT p' fun h' he hit hk => wpAny_pyIter_enum he ?_
    have I2 : Inv X pins σ H1 { s1 with heap := h' } := I1.kept (t' := s1.toks) hk
    refine ⟨s1.heap.objs.size + 1, [s1.heap.objs.size + 1, s1.heap.objs.size], _, _, H1, rfl, I2, turn_enumT a (s1.heap.objs.size + 1) s1.heap.objs.size, ⟨⟨.none, he⟩, hit, Nat.succ_ne_self _⟩, fun b hb => ?_, q⟩
    have hle : s1.heap.objs.size ≤ b := by
      rcases (show b = s1.heap.objs.size + 1 ∨ b = s1.heap.objs.size by simpa using hb) with z | z
      · rw [z]; exact Nat.le_add_right _ _
      · rw [z]; exact Nat.le_refl _
    exact I1.fpOk hle (I1.hok.fresh hle)
theorem walk_enT {K : PySem.W.Frag} {a : Addr} {xs : List V} : Walk (ItE K a) xs.length (fun H => SqT K H a xs) (YPair (fun i => some (.int (i : Nat))) (fun i => xs[i]?)) := by
  refine ⟨fun i _ hi q => ⟨xs, xs[i], q, by simp [hi]⟩, fun _ q => ⟨xs, q, Nat.le_refl _⟩, fun i H v H' _ q y => ?_⟩
  obtain ⟨T, x, h1, h2, h3, h4⟩ := y
  exact ⟨T, .int (i : Nat), x, h1, h2, h3, rfl, h4 xs q⟩
end MA

set_option maxRecDepth 100000
set_option maxHeartbeats 2000000
namespace MA
open PySem PySem.Spec PyProof.Rows L2

/-! ## {elt for t0 in i0 for t1 in i1}, elt an int -/
abbrev sc2 (elt t0 i0 t1 i1 : Expr) (scope : Scope) (pos : Pos) : Expr := .SetComp elt [⟨t0, i0, [], 0⟩, ⟨t1, i1, [], 0⟩] scope pos
theorem sc2_outer (elt t0 i0 t1 i1 : Expr) (scope : Scope) (pos : Pos) (it acc : Value) (env : Env) :
    compTurn (sc2 elt t0 i0 t1 i1 scope pos) 0 it acc env = (do
      standAt i0.pos
      match ← pyNext it with
      | none => pure (.done .next)
      | some v =>
        letOwnedTupleGo t0 it v
        assign t0 env v
        let x ← eval i1 env
        standAt i1.pos
        let x ← foldedSetIterable i1 env x
        let _ ← runOwn (.compStart (sc2 elt t0 i0 t1 i1 scope pos) 1 (← holding [x] (pyIter x)) acc env) env
        again (.compLoop (sc2 elt t0 i0 t1 i1 scope pos) 0 it acc env)) := by rfl
theorem sc2_inner (elt t0 i0 t1 i1 : Expr) (scope : Scope) (pos : Pos) (it acc : Value) (env : Env) :
    compTurn (sc2 elt t0 i0 t1 i1 scope pos) 1 it acc env = (do
      standAt i1.pos
      match ← pyNext it with
      | none => pure (.done .next)
      | some v =>
        letOwnedTupleGo t1 it v
        assign t1 env v
        (do let v ← eval elt env; standAt elt.pos; let _ ← call (.builtin "set.add") [acc, v])
        again (.compLoop (sc2 elt t0 i0 t1 i1 scope pos) 1 it acc env)) := by rfl
section
variable {prog : Program} {w : World} {A : Around} {R : Result → Shared → Prop} {s : Shared} {elt t0 i0 t1 i1 : Expr} {scope : Scope} {pos : Pos} {it acc : Value} {env : Env}
/-- the block's wish of an exception: none comes -/
abbrev Nox (prog : Program) (w : World) (A : Around) (env : Env) (R : Result → Shared → Prop) : Value → Shared → Prop := notedBy (model prog w) A env fun e t => R (.error e) t
theorem sc2_loop0 (hs : ∀ x, foldedSetIterable i1 env x = pure x) (I : Nat → Shared → Prop)
    (turn : ∀ n s, I n s → wpAny (model prog w) A (pyNext it) (fun r sa => match r with
      | none => R (.ok .next) sa
      | some v => wpAny (model prog w) A (letOwnedTupleGo t0 it v) (fun _ sb => wpAny (model prog w) A (assign t0 env v) (fun _ sc =>
          wpAny (model prog w) A (eval i1 env) (fun x sd => wpAny (model prog w) A (pyIter x) (fun it1 se =>
              codeAny (model prog w) A (.compStart (sc2 elt t0 i0 t1 i1 scope pos) 1 it1 acc env) (fun r t => match r with
                | .ok _ => ∃ m, m < n ∧ I m t
                | .error _ => False) se) (Nox prog w A env R) sd) (Nox prog w A env R) sc) (Nox prog w A env R) sb) (Nox prog w A env R) sa) (Nox prog w A env R) s)
    (n : Nat) (h : I n s) : codeAny (model prog w) A (.compLoop (sc2 elt t0 i0 t1 i1 scope pos) 0 it acc env) R s := by
  refine codeAny_loop rfl I (fun n s hI => ?_) n h
  show wpAny _ A ((compTurn (sc2 elt t0 i0 t1 i1 scope pos) 0 it acc env).onRaise (fun x => do noteFrame x env; theTreesLotGoes x)) _ _ s
  refine wpAny_noted ?_
  rw [sc2_outer]
  refine wpAny_bind (wpAny_standAt (wpAny_bind (wpAny_mono (turn n s hI) (fun r sa ha => ?_) fun _ _ z => z)))
  cases r with
  | none => exact wpAny_pure ha
  | some v =>
    refine wpAny_bind (wpAny_mono ha (fun _ sb hb => wpAny_bind (wpAny_mono hb (fun _ sc hc => ?_) fun _ _ z => z)) fun _ _ z => z)
    refine wpAny_bind (wpAny_mono hc (fun x sd hd => wpAny_bind (wpAny_standAt (wpAny_bind (wpAny_of_eq (hs x) (wpAny_bind (wpAny_holding (wpAny_mono hd (fun it1 se he => ?_) fun _ _ z => z))))))) fun _ _ z => z)
    refine wpAny_bind (wpAny_runOwn ?_)
    rw [Around.mark_none]
    refine codeAny_mono he fun r t hr => ?_
    cases r with
    | error e => exact hr.elim
    | ok f =>
      first
        | exact wpAny_pure ⟨rfl, hr⟩
        | exact wpAny_bind (wpAny_pure (wpAny_pure ⟨rfl, hr⟩))
theorem sc2_loop1 (I : Nat → Shared → Prop)
    (turn : ∀ n s, I n s → wpAny (model prog w) A (pyNext it) (fun r sa => match r with
      | none => R (.ok .next) sa
      | some v => wpAny (model prog w) A (letOwnedTupleGo t1 it v) (fun _ sb => wpAny (model prog w) A (assign t1 env v) (fun _ sc =>
          wpAny (model prog w) A (eval elt env) (fun x sd => wpAny (model prog w) A (call (.builtin "set.add") [acc, x]) (fun _ se => ∃ m, m < n ∧ I m se) (Nox prog w A env R) sd) (Nox prog w A env R) sc) (Nox prog w A env R) sb) (Nox prog w A env R) sa) (Nox prog w A env R) s)
    (n : Nat) (h : I n s) : codeAny (model prog w) A (.compLoop (sc2 elt t0 i0 t1 i1 scope pos) 1 it acc env) R s := by
  refine codeAny_loop rfl I (fun n s hI => ?_) n h
  show wpAny _ A ((compTurn (sc2 elt t0 i0 t1 i1 scope pos) 1 it acc env).onRaise (fun x => do noteFrame x env; theTreesLotGoes x)) _ _ s
  refine wpAny_noted ?_
  rw [sc2_inner]
  refine wpAny_bind (wpAny_standAt (wpAny_bind (wpAny_mono (turn n s hI) (fun r sa ha => ?_) fun _ _ z => z)))
  cases r with
  | none => exact wpAny_pure ha
  | some v =>
    refine wpAny_bind (wpAny_mono ha (fun _ sb hb => wpAny_bind (wpAny_mono hb (fun _ sc hc => ?_) fun _ _ z => z)) fun _ _ z => z)
    exact wpAny_bind (wpAny_bind (wpAny_mono hc (fun x sd hd => wpAny_bind (wpAny_standAt (wpAny_bind (wpAny_mono hd (fun _ se he => wpAny_pure (wpAny_pure ⟨rfl, he⟩)) fun _ _ z => z)))) fun _ _ z => z))
theorem sc2_start1 (h0 : codeAny (model prog w) A (.compLoop (sc2 elt t0 i0 t1 i1 scope pos) 1 it acc env) R s)
    (h : wpAny (model prog w) A (pyIter it) (fun it2 t => codeAny (model prog w) A (.compLoop (sc2 elt t0 i0 t1 i1 scope pos) 1 it2 acc env) R t) (Nox prog w A env R) s) :
    codeAny (model prog w) A (.compStart (sc2 elt t0 i0 t1 i1 scope pos) 1 it acc env) R s := by
  refine codeAny_of_tree ?_
  show wpAny _ _ ((compStart (sc2 elt t0 i0 t1 i1 scope pos) 1 it acc env).onRaise (fun x => do noteFrame x env; standAt theWindowsPlace)) _ _ s
  refine wpAny_notedAt ?_
  unfold compStart
  show wpAny _ _ (ask >>= _) _ _ s
  refine wpAny_bind (wpAny_askSetting (wpAny_ite ?_))
  split
  · first
      | exact wpAny_bind (wpAny_pure (wpAny_pure (And.intro rfl h0)))
      | exact wpAny_pure (And.intro rfl h0)
  · first
      | exact wpAny_bind (wpAny_rule (wpAny_bind (wpAny_standAt (wpAny_bind (wpAny_mono h (fun it2 t z => wpAny_pure (And.intro rfl z)) fun _ _ x => x)))))
      | (refine wpAny_bind (wpAny_rule ?_); show wpAny _ _ (standAt i1.pos >>= _) _ _ s; exact wpAny_bind (wpAny_standAt (wpAny_bind (wpAny_mono h (fun it2 t z => wpAny_pure (And.intro rfl z)) fun _ _ x => x))))
end
section
variable {X : Cx}
theorem addI_ok {pins : List (Addr × Obj)} {σ : L2.St} {H : Hp} {s : Shared} {E : Value → Shared → Prop} {D : Addr} {S : Int → Bool} {n : Nat} {k : Int} {tk : Tok} {Q : Value → Shared → Prop} (I : Inv X pins σ H s) (hD : H D = some (SetO X.w D S n)) (room : n + 1 < scanBound)
    (h : ∀ t, Inv X pins σ (upd H D (SetO X.w D (fun j => S j || decide (j = k)) (if S k = true then n else n + 1))) t → Q .none t) : wpAny (model X.prog X.w) X.A (call (.builtin "set.add") [.ref D, .int k tk]) Q E s := by
  refine setR_add (setO_get I hD) room fun h2 sb new => ?_
  have there : ∃ u, h2.get? D = some u := let ⟨o, _, _, _, ho, _⟩ := new; ⟨o, ho⟩
  exact h _ (I.write (e := D) (t' := s.toks + 1) (by rw [hD]; trivial) (.inl rfl) (fun b u hb hu => (sb.2 b hb).trans hu) there (setO_new new))
/-- the reading: a set at D that grows -/
def tSc2 (w : World) (wi : TI) (g : TG) (wi1 : TI) (g1 : TG) (te : TE) (vs vs1 : List Nat) : TE := fun σ H Q => wi σ H fun J H1 => ∀ D, H1 D = none → ∃ W : Nat → Nat → Hp → Prop, (∃ m, W 0 m (upd H1 D (SetO w D (fun _ => false) 0))) ∧ ∀ i m H, W i m H →
  (J.stop i H ∧ Q (.ref D) H) ∨ (J.go i H ∧ ∃ Nx : Hp → Prop, (∀ Hn, Nx Hn → ∃ mn, mn < m ∧ W (i + 1) mn Hn) ∧ ∀ x Hy, J.yld i H x Hy → g x (wipe σ vs) Hy fun σ2 H2 => wipe σ2 vs = wipe σ vs ∧
    wi1 σ2 H2 fun J1 H4 => ∃ W1 : Nat → Nat → Hp → Prop, (∃ m, W1 0 m H4) ∧ ∀ j k H, W1 j k H →
      (J1.stop j H ∧ Nx H) ∨ (J1.go j H ∧ ∃ Ny : Hp → Prop, (∀ Hn, Ny Hn → ∃ kn, kn < k ∧ W1 (j + 1) kn Hn) ∧ ∀ x Hy, J1.yld j H x Hy → g1 x (wipe σ2 vs1) Hy fun σ3 H5 => wipe σ3 vs1 = wipe σ2 vs1 ∧
        te σ3 H5 fun y H7 => ∃ (z : Int) (S : Int → Bool) (n : Nat), y = .int z ∧ H7 D = some (SetO w D S n) ∧ n + 1 < scanBound ∧ Ny (upd H7 D (SetO w D (fun j => S j || decide (j = z)) (if S z = true then n else n + 1)))))
theorem pe_sc2 {elt t0 i0 t1 i1 : Expr} {scope : Scope} {own : List (PySem.Str × Nat)} {vs1 : List Nat} {pos : Pos} {wi wi1 : TI} {g g1 : TG} {te : TE} (hc : X.calm = true) (hN : X.N.Nodup) (hi : PI X t0 i0 wi) (ok : BlkOk X.N X.env.scope scope own) (hv : ∀ i ∈ vs1, i ∈ own.map (·.2))
    (hg : ∀ (s : Shared) (H : Hp) (C : Addr) (cl : List (PySem.Str × Addr)) (fp : List Addr), PG (X.blk s H scope (compEnvC scope cl C X.env) fp) t0 g)
    (hi1 : ∀ (s : Shared) (H : Hp) (C : Addr) (cl : List (PySem.Str × Addr)) (fp : List Addr), PI (X.blk s H scope (compEnvC scope cl C X.env) fp) t1 i1 wi1)
    (hg1 : ∀ (s : Shared) (H : Hp) (C : Addr) (cl : List (PySem.Str × Addr)) (fp : List Addr), PG (X.blk s H scope (compEnvC scope cl C X.env) fp) t1 g1)
    (he : ∀ (s : Shared) (H : Hp) (C : Addr) (cl : List (PySem.Str × Addr)) (fp : List Addr), PE (X.blk s H scope (compEnvC scope cl C X.env) fp) elt te)
    (hs : ∀ x, foldedSetIterable i0 X.env x = pure x := by intro _; rfl) (hs1 : ∀ env x, foldedSetIterable i1 env x = pure x := by intro _ _; rfl) :
    PE X (.SetComp elt [⟨t0, i0, [], 0⟩, ⟨t1, i1, [], 0⟩] scope pos) (tSc2 X.w wi g wi1 g1 te (own.map (·.2)) vs1) := by
  refine ⟨fun pins s σ H Q I h => ?_⟩
  show wpAny _ _ (comprehension (sc2 elt t0 i0 t1 i1 scope pos) scope X.env (firstIterPos [⟨t0, i0, [], 0⟩, ⟨t1, i1, [], 0⟩] pos) (newSet (.type "set")) false (eval i0 X.env) none) _ _ s
  have hfree : ∀ y ∈ scope.names, y.2 = .free → ∃ c, X.env.cells.lookup y.1 = some c := fun y hy e => (ok.free y hy e).elim (fun k => I.ok.has _ (.inl k)) fun k => I.ok.has _ (.inr k)
  refine wpAny_comprehension_free (use := none) rfl hs (closure_ok hfree) ok.kind (fun y hy e => by rw [ok.uniq y hy, e]) (thn (hi.run pins s σ H _ I h) fun xv sa hx => thn hx fun itv sb h2 => ?_)
  obtain ⟨it, fp, tn, J, H2, e, I2, T, st2, f2, q⟩ := h2
  subst e
  refine PpSet.newSet_ok (newEnv_comp ?_)
  generalize hD : sb.heap.objs.size = D
  have hDn : H2 D = none := I2.hok.fresh (Nat.le_of_eq hD)
  obtain ⟨W, ⟨m0, w0⟩, turn⟩ := q D hDn
  generalize h3 : ({ sb with heap := sb.heap.push { cls := .type "set", dict := none, data := .set #[] 0 (.fresh 0 0 (!X.w.params.followText "set-order")) } } : Shared) = sc
  generalize hH3 : upd H2 D (SetO X.w D (fun _ => false) 0) = H3 at w0
  have hp3 : sc.heap = sb.heap.push { cls := .type "set", dict := none, data := .set #[] 0 (.fresh 0 0 (!X.w.params.followText "set-order")) } := by rw [← h3]
  have I3 : Inv X pins σ H3 sc := by
    rw [← h3, ← hH3]
    refine I2.laid (t' := sb.toks) (fun b o e => Heap.get?_push_of_some _ e) (Nat.le_of_eq hD) ?_
    rw [← hD]
    exact setO_new (setR_fresh X.w)
  have f3 : ∀ b ∈ fp, FpOk X pins H3 b ∧ b < sc.heap.objs.size := fun b hb => by
    obtain ⟨o, e, _⟩ := T.obj _ _ st2 b hb
    have hlt : b < sb.heap.objs.size := Heap.lt_size e
    refine ⟨⟨?_, (f2 b hb).2⟩, by rw [hp3, Heap.size_push]; exact Nat.lt_succ_of_lt hlt⟩
    rw [← hH3, upd_ne (by rw [← hD]; exact Nat.ne_of_lt hlt)]
    exact (f2 b hb).1
  have I4 := block_start I3 ok hN f3
  have pg := hg sc H3 sc.heap.objs.size (cellsFrom (sc.heap.objs.size + 1) scope.names (cloFrom X.env.cells scope.names [])) fp
  have pe := he sc H3 sc.heap.objs.size (cellsFrom (sc.heap.objs.size + 1) scope.names (cloFrom X.env.cells scope.names [])) fp
  have pi1 := hi1 sc H3 sc.heap.objs.size (cellsFrom (sc.heap.objs.size + 1) scope.names (cloFrom X.env.cells scope.names [])) fp
  have pg1 := hg1 sc H3 sc.heap.objs.size (cellsFrom (sc.heap.objs.size + 1) scope.names (cloFrom X.env.cells scope.names [])) fp
  show codeAny _ _ (.compStart (sc2 elt t0 i0 t1 i1 scope pos) 0 (.ref it) (.ref D) (compEnvC scope (cellsFrom (sc.heap.objs.size + 1) scope.names (cloFrom X.env.cells scope.names [])) sc.heap.objs.size X.env)) (compPost (model X.prog X.w) X.A X.xe none (EP X pins σ Q) (.ref D) sc.heap.objs.size) { sc with heap := pushCells (sc.heap.push { cls := .type "dict", data := .dict #[] }) scope.names }
  generalize hce : compEnvC scope (cellsFrom (sc.heap.objs.size + 1) scope.names (cloFrom X.env.cells scope.names [])) sc.heap.objs.size X.env = ce at I4 pg pe pi1 pg1 ⊢
  have cL : ce.locals = sc.heap.objs.size := by subst hce; rfl
  generalize h4 : ({ sc with heap := pushCells (sc.heap.push { cls := .type "dict", data := .dict #[] }) scope.names } : Shared) = sd at I4 ⊢
  have st4 : tn 0 sd.heap := T.keep _ _ _ st2 fun b _ o e => by
    rw [← h4]
    exact pushCells_keeps _ _ _ _ (Heap.get?_push_of_some _ (by rw [hp3]; exact Heap.get?_push_of_some _ e))
  generalize hY : X.blk sc H3 scope ce fp = Y at I4 pg pe pi1 pg1
  have yex : Y.ex = fp := by rw [← hY]
  have stat : ∀ {σa : L2.St} {Ha : Hp} {t : Shared} {ps : List (Addr × Obj)}, Inv Y ps σa Ha t → (∀ b ∈ fp, Ha b = none) → ∀ b ∈ fp, FpOk Y [] Ha b := fun {σa Ha t ps} Ia hn b hb => by
    have hb' : b ∈ Y.ex := by rw [yex]; exact hb
    exact ⟨hn b hb, (Ia.ok.exf b hb').1, Ia.ok.exfs b hb', .inl hb', fun x c e => (Ia.ok.exf b hb').2 x c e, fun p hp => by rw [← hY] at hp; cases hp⟩
  have yP : Y.prog = X.prog := by rw [← hY]
  have yw : Y.w = X.w := by rw [← hY]
  have yK : Y.K = X.K := by rw [← hY]
  have yA : Y.A = X.A := by rw [← hY]
  have yc : Y.calm = true := by rw [← hY]; exact hc
  have yx : Y.xe = fun _ _ => False := by rw [← hY]
  have main : ∀ (R : Result → Shared → Prop), (∀ t Ha, Inv Y [] (wipe σ (own.map (·.2))) Ha t → Q (.ref D) Ha → R (.ok .next) t) →
      codeAny (model X.prog X.w) X.A (.compLoop (sc2 elt t0 i0 t1 i1 scope pos) 0 (.ref it) (.ref D) ce) R sd := by
    intro R hend
    subst hY
    refine sc2_loop0 (hs1 ce) (fun n t => ∃ i Ha, Inv (X.blk sc H3 scope ce fp) [] (wipe σ (own.map (·.2))) Ha t ∧ tn i t.heap ∧ (∀ b ∈ fp, Ha b = none) ∧ W i n Ha) ?_ m0 ⟨0, H3, I4, st4, fun b hb => (f3 b hb).1.1, w0⟩
    rintro n ta ⟨i, H5, I5, st5, n5, w5⟩
    rcases turn i n H5 w5 with ⟨stop, qq⟩ | ⟨go, Nx, hNx, step⟩
    · refine thnF (T.done (X.blk sc H3 scope ce fp) rfl rfl rfl hc i [] ta _ H5 (fun _ _ => False) I5 (stat I5 n5) st5 stop) fun r tb ⟨hr, I6⟩ => ?_
      subst hr
      exact hend tb H5 I6 qq
    refine thnF (T.item (X.blk sc H3 scope ce fp) rfl rfl rfl hc i [] ta _ H5 (fun _ _ => False) I5 (stat I5 n5) st5 go) fun r tb ⟨u, hr, h6⟩ => ?_
    subst hr
    refine thnF h6 fun _ tc ⟨x, H7, I7, r7, y7, st7, n7⟩ => ?_
    refine thnF (pg.run _ tc _ H7 x u _ (I7.pinned (stat I7 n7) (T.obj _ _ st7)) r7 (step x H7 y7)) fun _ td ⟨σ8, H8, I8, hw8, q8⟩ => ?_
    -- back to the outer loop
    have fin : ∀ {σ9 : L2.St} {t : Shared} {Ha : Hp}, Inv (X.blk sc H3 scope ce fp) ([] ++ pinsAt fp tc.heap) σ9 Ha t → (wipe σ (own.map (·.2))).length = σ9.length → (∀ (j : Nat) v, (wipe σ (own.map (·.2)))[j]? = some (some v) → σ9[j]? = some (some v)) → Nx Ha →
        ∃ m, m < n ∧ ∃ i Ha, Inv (X.blk sc H3 scope ce fp) [] (wipe σ (own.map (·.2))) Ha t ∧ tn i t.heap ∧ (∀ b ∈ fp, Ha b = none) ∧ W i m Ha := fun {σ9 t Ha} Ia hl hk nx => by
      obtain ⟨mn, hm, wn⟩ := hNx Ha nx
      have pin : ∀ b ∈ fp, ∀ o, tc.heap.get? b = some o → t.heap.get? b = some o ∧ Ha b = none := fun b hb o e => by
        have z := Ia.pin (b, o) (List.mem_append_right _ (List.mem_append_right _ (mem_pinsAt hb e)))
        exact ⟨z.1, z.2.1⟩
      refine ⟨mn, hm, i + 1, Ha, (Ia.unpinned (pins := [])).weak hl hk, T.keep _ _ _ st7 fun b hb o e => (pin b hb o e).1, fun b hb => ?_, wn⟩
      obtain ⟨o, e, _⟩ := T.obj _ _ st7 b hb
      exact (pin b hb o e).2
    have hl8 : (wipe σ (own.map (·.2))).length = σ8.length := by rw [← hw8, wipe_length]
    have hk9 : ∀ (j : Nat) v, (wipe σ (own.map (·.2)))[j]? = some (some v) → (wipe σ8 vs1)[j]? = some (some v) := fun j v e => by
      rw [← hw8] at e
      obtain ⟨e1, e2⟩ := wipe_some e
      rw [wipe_out fun z => e2 (hv j z)]
      exact e1
    refine thnF (pi1.run _ td σ8 H8 _ I8 q8) fun xv te' hx => thnF hx fun itv tf h11 => ?_
    obtain ⟨it1, fp1, tn1, J1, H11, e1, I11, T1, st11, f11, W1, ⟨m1, w1⟩, turn1⟩ := h11
    subst e1
    have stat1 : ∀ {Ha : Hp}, (∀ b ∈ fp1, Ha b = none) → ∀ b ∈ fp1, FpOk (X.blk sc H3 scope ce fp) ([] ++ pinsAt fp tc.heap) Ha b := fun hn b hb => ⟨hn b hb, (f11 b hb).2⟩
    have inner : codeAny (model X.prog X.w) X.A (.compLoop (sc2 elt t0 i0 t1 i1 scope pos) 1 (.ref it1) (.ref D) ce)
        (fun r t => match r with
          | .ok _ => ∃ m, m < n ∧ ∃ i Ha, Inv (X.blk sc H3 scope ce fp) [] (wipe σ (own.map (·.2))) Ha t ∧ tn i t.heap ∧ (∀ b ∈ fp, Ha b = none) ∧ W i m Ha
          | .error _ => False) tf := by
      refine sc2_loop1 (fun k t => ∃ j Ha, Inv (X.blk sc H3 scope ce fp) ([] ++ pinsAt fp tc.heap) (wipe σ8 vs1) Ha t ∧ tn1 j t.heap ∧ (∀ b ∈ fp1, Ha b = none) ∧ W1 j k Ha) ?_ m1 ⟨0, H11, I11.weak (wipe_length _ _) (fun j v e => (wipe_some e).1), st11, fun b hb => (f11 b hb).1, w1⟩
      rintro k tg ⟨j, H12, I12, st12, n12, w12⟩
      rcases turn1 j k H12 w12 with ⟨stop1, nx1⟩ | ⟨go1, Ny, hNy, step1⟩
      · refine thnF (T1.done (X.blk sc H3 scope ce fp) rfl rfl rfl hc j _ tg (wipe σ8 vs1) H12 (fun _ _ => False) I12 (stat1 n12) st12 stop1) fun r th ⟨hr, I13⟩ => ?_
        subst hr
        exact fin I13 (hl8.trans (wipe_length σ8 vs1).symm) hk9 nx1
      refine thnF (T1.item (X.blk sc H3 scope ce fp) rfl rfl rfl hc j _ tg (wipe σ8 vs1) H12 (fun _ _ => False) I12 (stat1 n12) st12 go1) fun r th ⟨u1, hr, h13⟩ => ?_
      subst hr
      refine thnF h13 fun _ ti ⟨x1, H14, I14, r14, y14, st14, n14⟩ => ?_
      refine thnF (pg1.run _ ti (wipe σ8 vs1) H14 x1 u1 _ (I14.pinned (stat1 n14) (T1.obj _ _ st14)) r14 (step1 x1 H14 y14)) fun _ tj ⟨σ15, H15, I15, hw15, q15⟩ => ?_
      refine thnF (pe.run _ tj σ15 H15 _ I15 q15) fun z tk ⟨yv, H17, I17, r17, zi, S0, n0, ey, hD17, hz17, nx⟩ => ?_
      subst ey
      obtain ⟨ztok, rfl⟩ := (show ∃ t, z = Value.int zi t from r17)
      refine addI_ok (X := X.blk sc H3 scope ce fp) I17 hD17 hz17 fun tl I18 => ?_
      obtain ⟨kn, hk, wn⟩ := hNy _ nx
      have pin : ∀ b ∈ fp1, ∀ o, ti.heap.get? b = some o → tl.heap.get? b = some o ∧ (upd H17 D (SetO X.w D (fun j => S0 j || decide (j = zi)) (if S0 zi = true then n0 else n0 + 1))) b = none := fun b hb o e => by
        have z := I18.pin (b, o) (List.mem_append_right _ (List.mem_append_right _ (mem_pinsAt hb e)))
        exact ⟨z.1, z.2.1⟩
      refine ⟨kn, hk, j + 1, _, I18.unpinned.weak (by rw [← hw15, wipe_length]) (fun j v e => by rw [← hw15] at e; exact (wipe_some e).1), T1.keep _ _ _ st14 fun b hb o e => (pin b hb o e).1, fun b hb => ?_, wn⟩
      obtain ⟨o, e, _⟩ := T1.obj _ _ st14 b hb
      exact (pin b hb o e).2
    exact sc2_start1 inner (T1.self X.A 0 _ _ _ st11 inner)
  have loop := main (compPost (model X.prog X.w) X.A X.xe none (EP X pins σ Q) (.ref D) sc.heap.objs.size) fun t Ha Ia qq => by
    subst hY
    have I7 : Inv X pins σ Ha t := I3.call' (ch := fp) Ia.os Ia.base Ia.hok Ia.bare fun b hb => ⟨(f3 b hb).1.2.2.2.1, (f3 b hb).1.2.1, (f3 b hb).1.2.2.2.2.1, (f3 b hb).1.2.2.2.2.2⟩
    have nC : Ha sc.heap.objs.size = none := by
      have z : Ha ce.locals = none := Ia.free
      rw [cL] at z
      exact z
    obtain ⟨mm, hn, _⟩ := Ia.loc
    have hn : t.heap.Ns ce.locals mm := hn
    rw [cL] at hn
    refine ⟨mm, hn, fun h'' sb' => ?_⟩
    obtain ⟨f0, f1, f2, f4, f5, f6⟩ := I3.fpOk (Nat.le_refl _) nC
    exact ⟨.ref D, Ha, I7.turned (t' := t.toks) (fun b o hb e => (sb'.2 b hb).trans e) f0 f1 f4 f5 f6, rfl, qq⟩
  exact PpSet.codeAny_compStart_set loop (T.self X.A 0 _ _ _ st4 loop)
end
end MA

set_option maxRecDepth 100000
set_option maxHeartbeats 2000000
namespace MA
open PySem PySem.Spec PyProof.Rows L2

/-! ## how many different ones -/
def dcount : List Int → Nat
  | [] => 0
  | x :: r => if x ∈ r then dcount r else dcount r + 1
theorem dcount_le : ∀ ns : List Int, dcount ns ≤ ns.length
  | [] => Nat.le_refl _
  | x :: r => by
    have := dcount_le r
    unfold dcount
    split
    · rw [List.length_cons]; omega
    · rw [List.length_cons]; omega
theorem dcount_eq : ∀ ns : List Int, dcount ns = ns.length ↔ ns.Nodup
  | [] => by simp [dcount]
  | x :: r => by
    have ih := dcount_eq r
    have hle := dcount_le r
    unfold dcount
    rw [List.nodup_cons, List.length_cons]
    split
    · rename_i h
      constructor
      · intro e; omega
      · intro e; exact absurd h e.1
    · rename_i h
      constructor
      · intro e; exact ⟨h, ih.mp (by omega)⟩
      · intro e; rw [ih.mpr e.2]
theorem nodup_count : ∀ (ns l : List Int), l.Nodup → (∀ k, k ∈ l ↔ k ∈ ns) → l.length = dcount ns
  | [], l, _, hm => by
    cases l with
    | nil => rfl
    | cons a l => exact absurd ((hm a).mp (List.mem_cons_self ..)) (by simp)
  | x :: r, l, hn, hm => by
    unfold dcount
    split
    · rename_i h
      refine nodup_count r l hn fun k => ?_
      rw [hm k, List.mem_cons]
      exact ⟨fun z => z.elim (fun e => e ▸ h) id, .inr⟩
    · rename_i h
      have hx : x ∈ l := (hm x).mpr (List.mem_cons_self ..)
      have h1 := nodup_count r (l.erase x) (hn.erase x) fun k => by
        rw [hn.mem_erase_iff, hm k, List.mem_cons]
        constructor
        · rintro ⟨a, b⟩; exact b.resolve_left a
        · intro b; exact ⟨fun e => h (e ▸ b), .inr b⟩
      have h2 : (l.erase x).length = l.length - 1 := List.length_erase_of_mem hx
      have h3 : 0 < l.length := List.length_pos_of_mem hx
      omega
section
variable {X : Cx}
/-- len(set(t)), t a tuple of ints -/
def tLenSetT (K : PySem.W.Frag) (ta : TE) : TE := fun σ H Q => ta σ H fun x H1 => ∃ (l : Addr) (ns : List Int), x = V.ref l ∧ SqT K H1 l (ns.map V.int) ∧ ns.length ≤ 1000 ∧ Q (.int (dcount ns)) H1
theorem pe_lenSetT {a : Expr} {ta : TE} {p p2 q pos : Pos} (hc : X.calm = true) (hg : Gl X "len") (hm : X.mg "len" = none) (hg2 : Gl X "set") (hm2 : X.mg "set" = none) (ha : PE X a ta)
    (na : starEach [a] X.env = (false, eval a X.env) :: starEach [] X.env := by rfl) : PE X (.Call (.Name "len" p) [.Call (.Name "set" p2) [a] [] q] [] pos) (tLenSetT X.K ta) := by
  refine ⟨fun pins s σ H Q I h => ?_⟩
  refine Call_ (ld_blt I hg hm PySem.boot_len ?_)
  refine PyProof.Rows.callWith_builtin1 (PyProof.Rows.args_cons ?_ rfl) rfl rfl
  refine Call_ (ld_blt I hg2 hm2 PyProof.Rows.boot_set ?_)
  refine PyProof.Rows.callWith_type1 (PyProof.Rows.args_cons (thn (ha.run pins s σ H _ I h) fun v s1 ⟨x, H1, I1, r1, l, ns, ex, hq, h1, q1⟩ => PyProof.Rows.args_nil ?_) na) na rfl
  subst ex
  cases r1
  obtain ⟨its, r, pl, hz⟩ := I1.tuple hq
  refine call_set_tupI ns (I1.ok.hd hc) pl (by simpa using intsAre_of r) (by unfold scanBound; omega) fun h2 tk c R hcl hk => ?_
  obtain ⟨o, es, ep, t, ho, hex, hd, _, hnd, hmem, hb, hf, hn, _⟩ := R
  refine PyProof.Rows.args_nil ?_
  have e : es.size = dcount ns := by
    have := nodup_count ns (es.toList.map keyOf) hnd fun k => by
      rw [← hmem k]
      simp
    rw [List.length_map, Array.length_toList] at this
    exact this
  have I2 : Inv X pins σ H1 { s1 with heap := h2, toks := tk } := I1.kept fun b o e => hk b o e
  refine call_len_set ho hex hd hf (by rw [hn]; omega) ⟨.int (dcount ns), H1, I2.tok _, ⟨_, by rw [e]⟩, q1⟩
theorem ev_lenSet {K : PySem.W.Frag} {σ : L2.St} {B H : Hp} {te : TE} {ns : List Int} (h : Ev K te σ B H (.tuple (ns.map PyData.int))) (hz : ns.length ≤ 1000) : Ev K (tLenSetT K te) σ B H (.int (dcount ns)) := fun B1 H1 l Q q =>
  h B1 H1 l _ fun v B2 H2 l2 hv => by
    cases hv with
    | tup h1 q1 =>
      cases ofInts q1
      exact ⟨_, ns, rfl, Evl.ex_t l2.h h1, hz, q _ B2 H2 l2 (.int _)⟩
end
/-! ## comprehensions over plain data -/
section
variable {K : PySem.W.Frag} {σ : L2.St} {B H : Hp} {tl te : TE} {tt : TT}
def slotsD (K : PySem.W.Frag) (B : Hp) (σ : L2.St) (i : Nat) (d : PyData) : Prop := ∃ v, σ[i]? = some (some v) ∧ Dq K B v d
/-- what a comprehension's list holds after some items -/
def picked (f : Nat → Bool) (g : Nat → PyData) (n : Nat) : List PyData := ((List.range n).filter f).map g
theorem picked_yes {f : Nat → Bool} {g : Nat → PyData} {n : Nat} (h : f n = true) : picked f g (n + 1) = picked f g n ++ [g n] := by
  unfold picked
  rw [List.range_succ, List.filter_append, List.map_append, List.filter_cons, if_pos h]
  rfl
theorem picked_no {f : Nat → Bool} {g : Nat → PyData} {n : Nat} (h : f n = false) : picked f g (n + 1) = picked f g n := by
  unfold picked
  rw [List.range_succ, List.filter_append, List.map_append, List.filter_cons, if_neg (by rw [h]; decide)]
  exact List.append_nil _
theorem picked_len (f : Nat → Bool) (g : Nat → PyData) (n : Nat) : (picked f g n).length ≤ n := by
  unfold picked
  rw [List.length_map]
  have h := List.length_filter_le f (List.range n)
  rwa [List.length_range] at h
/-- the word of a pure comprehension: D the list that grows -/
structure Lw (K : PySem.W.Frag) (B H : Hp) (D : Addr) (f : Nat → Bool) (g : Nat → PyData) (i : Nat) (Hi : Hp) : Prop where
  ex : ∃ Bi acc, Le [] B H Bi Hi ∧ Bi D = none ∧ Hi D = some (.lst acc) ∧ DqAll K Bi acc (picked f g i)
theorem Lw.turn {D : Addr} {f : Nat → Bool} {g : Nat → PyData} {i : Nat} {Hi : Hp} {σ2 : L2.St} (hD : H D = none) (hw : Lw K B H D f g i Hi) (hi : i < 100000)
    (ht : ∀ Bi, Le [] B H Bi Hi → EvT tt σ2 Bi Hi (f i)) (he : ∀ Bi Hj, Le [] B H Bi Hj → f i = true → Ev K te σ2 Bi Hj (g i)) :
    tt σ2 Hi fun b H3 => if b = true then te σ2 H3 fun y H4 => ∃ acc, H4 D = some (.lst acc) ∧ acc.length < sizeLine ∧ Lw K B H D f g (i + 1) (upd H4 D (.lst (acc ++ [y]))) else Lw K B H D f g (i + 1) H3 := by
  obtain ⟨Bi, acc, l, hb, hh, hq⟩ := hw
  refine ht Bi l Bi Hi (Le.refl l.h) _ fun B3 H3 l3 => ?_
  have b3 : B3 D = none := l3.own hh hb
  have h3 : H3 D = some (.lst acc) := l3.k D _ (by simp) hh
  cases hf : f i with
  | false =>
    rw [if_neg Bool.false_ne_true]
    exact ⟨B3, acc, l.trans l3, b3, h3, by rw [picked_no hf]; exact hq.mono l3.b⟩
  | true =>
    rw [if_pos rfl]
    refine he B3 H3 (l.trans l3) hf B3 H3 (Le.refl l3.h) _ fun v B4 H4 l4 hv => ?_
    have b4 : B4 D = none := l4.own h3 b3
    have h4 : H4 D = some (.lst acc) := l4.k D _ (by simp) h3
    have hlen : acc.length ≤ i := by rw [hq.length]; exact picked_len f g i
    have hsl : 100000 < sizeLine := by rw [sizeLine_eq]; decide
    refine ⟨acc, h4, by omega, B4, acc ++ [v], ?_, b4, upd_same, ?_⟩
    · have l5 : Le [D] B4 H4 B4 (upd H4 D (.lst (acc ++ [v]))) := Le.put l4.h b4 (by simp)
      have l6 := (l.trans l3).trans l4
      refine ⟨l6.b, l5.h, fun a o _ e => ?_, fun a e => ?_, l6.n⟩
      · have hne : a ≠ D := fun z => by rw [z, hD] at e; cases e
        rw [upd_ne hne]
        exact l6.k a o (by simp) e
      · have := l6.t a e
        unfold upd
        split
        · simp
        · exact this
    · rw [picked_yes hf]
      exact ((hq.mono l3.b).mono l4.b).append (.cons hv .nil)
/-- over a list, over a tuple: the target a name j -/
theorem ev_lcL {xs : List PyData} {j : Nat} {vs : List Nat} (f : Nat → Bool) (g : Nat → PyData) (h : Ev K tl σ B H (.list xs)) (hz : xs.length ≤ 100000) (hw : ∀ x, wipe ((wipe σ vs).set j (some x)) vs = wipe σ vs)
    (ht : ∀ (i : Nat) (d : PyData) (v : V) B1 H1, Le [] B H B1 H1 → xs[i]? = some d → Dq K B1 v d → EvT tt ((wipe σ vs).set j (some v)) B1 H1 (f i))
    (he : ∀ (i : Nat) (d : PyData) (v : V) B1 H1, Le [] B H B1 H1 → xs[i]? = some d → Dq K B1 v d → f i = true → Ev K te ((wipe σ vs).set j (some v)) B1 H1 (g i)) :
    Ev K (tLc (iList K tl) (gName j) tt te vs) σ B H (.list (picked f g xs.length)) := fun B0 H0 l0 Q q => h B0 H0 l0 _ fun u B1 H1 l1 hu => by
  cases hu with
  | lst hs hq =>
    rename_i a ys
    refine ⟨a, rfl, ⟨ys, .inl (.inl (l1.h _ _ hs))⟩, fun D hD => ?_⟩
    have hlen := hq.length
    refine lc_list (xs := ys) (Lw K B1 H1 D f g) ⟨B1, [], Le.made l1.h hD, ?_, upd_same, .nil⟩ (fun i Hi _ p => ?_) (fun i x Hi hi p => ⟨hw x, ?_⟩) (fun Hi p => ?_)
    · cases z : B1 D with
      | none => rfl
      | some o => rw [l1.h D o z] at hD; cases hD
    · obtain ⟨Bi, acc, l, _⟩ := p
      exact .inl (.inl (l.h _ _ (l.b _ _ hs)))
    · obtain ⟨d, hd, hx⟩ := hq.get hi
      have hlt : i < ys.length := (List.getElem?_eq_some_iff.mp hi).1
      exact Lw.turn hD p (by omega) (fun Bi l => ht i d x Bi Hi (l0.trans (l1.trans l)) hd (hx.mono l.b)) (fun Bi Hj l hf => he i d x Bi Hj (l0.trans (l1.trans l)) hd (hx.mono l.b) hf)
    · obtain ⟨Bi, acc, l, hb, hh, hq2⟩ := p
      rw [hlen] at hq2
      have lg := l.give hD hb hh
      exact q (.ref D) _ Hi (l1.trans lg) (.lst upd_same (hq2.mono (Evl.Ex.new hb)))
theorem ev_lcT {xs : List PyData} {j : Nat} {vs : List Nat} (f : Nat → Bool) (g : Nat → PyData) (h : Ev K tl σ B H (.tuple xs)) (hz : xs.length ≤ 100000) (hw : ∀ x, wipe ((wipe σ vs).set j (some x)) vs = wipe σ vs)
    (ht : ∀ (i : Nat) (d : PyData) (v : V) B1 H1, Le [] B H B1 H1 → xs[i]? = some d → Dq K B1 v d → EvT tt ((wipe σ vs).set j (some v)) B1 H1 (f i))
    (he : ∀ (i : Nat) (d : PyData) (v : V) B1 H1, Le [] B H B1 H1 → xs[i]? = some d → Dq K B1 v d → f i = true → Ev K te ((wipe σ vs).set j (some v)) B1 H1 (g i)) :
    Ev K (tLc (iTup K tl) (gName j) tt te vs) σ B H (.list (picked f g xs.length)) := fun B0 H0 l0 Q q => h B0 H0 l0 _ fun u B1 H1 l1 hu => by
  cases hu with
  | tup hs hq =>
    rename_i a ys
    refine ⟨a, rfl, ⟨ys, Evl.ex_t l1.h hs⟩, fun D hD => ?_⟩
    have hlen := hq.length
    refine lc_tup (xs := ys) (Lw K B1 H1 D f g) ⟨B1, [], Le.made l1.h hD, ?_, upd_same, .nil⟩ (fun i Hi _ p => ?_) (fun i x Hi hi p => ⟨hw x, ?_⟩) (fun Hi p => ?_)
    · cases z : B1 D with
      | none => rfl
      | some o => rw [l1.h D o z] at hD; cases hD
    · obtain ⟨Bi, acc, l, _⟩ := p
      exact Evl.ex_t (l.b.trans l.h) hs
    · obtain ⟨d, hd, hx⟩ := hq.get hi
      have hlt : i < ys.length := (List.getElem?_eq_some_iff.mp hi).1
      exact Lw.turn hD p (by omega) (fun Bi l => ht i d x Bi Hi (l0.trans (l1.trans l)) hd (hx.mono l.b)) (fun Bi Hj l hf => he i d x Bi Hj (l0.trans (l1.trans l)) hd (hx.mono l.b) hf)
    · obtain ⟨Bi, acc, l, hb, hh, hq2⟩ := p
      rw [hlen] at hq2
      have lg := l.give hD hb hh
      exact q (.ref D) _ Hi (l1.trans lg) (.lst upd_same (hq2.mono (Evl.Ex.new hb)))
theorem et_yes : EvT tYes σ B H true := fun B1 H1 l Q q => q B1 H1 (Le.refl l.h)
end
end MA

set_option maxRecDepth 100000
set_option maxHeartbeats 2000000
namespace MA
open PySem PySem.Spec PyProof.Rows L2

/-! ## a def of the text, and what callers need of it -/
structure Df (K : PySem.W.Frag) (mg : PySem.Str → Option Value) (x : PySem.Str) (st : Stmt) (ps : List PySem.Str) : Prop where
  ex : ∃ f fd, Fun K x x st f fd ∧ mg x = some (.ref f) ∧ Binds K fd ps []
structure Cl (P : Program) (w : World) (K : PySem.W.Frag) (mg : PySem.Str → Option Value) (base : Heap) (CX : CXT) (k : Nat) (x : PySem.Str) (ps : List PySem.Str) (sp : Sp) : Prop where
  ex : ∃ f fd, FnOk P w K mg base CX k f fd ps sp ∧ mg x = some (.ref f) ∧ PySem.W.keepIn K (.ref f) = true ∧ Binds K fd ps []
section
variable {P : Program} {w : World} {K : PySem.W.Frag} {mg : PySem.Str → Option Value} {base : Heap}
theorem Cl.imp {CX : CXT} {k : Nat} {x : PySem.Str} {ps : List PySem.Str} {sp sp' : Sp} (C : Cl P w K mg base CX k x ps sp) (h : ∀ vs H Q E, sp' vs H Q E → sp vs H Q E) : Cl P w K mg base CX k x ps sp' := by
  obtain ⟨f, fd, F, r⟩ := C.ex
  exact ⟨f, fd, F.imp h, r⟩
theorem Cl.of {x : PySem.Str} {st : Stmt} {ps N : List PySem.Str} {k : Nat} {sp : Sp} (D : Df K mg x st ps) (S : FnScope N ps (defScope st)) (len : ∀ vs H Q E, sp vs H Q E → vs.length = ps.length)
    (hb : ∀ (f : Addr) (cdv : Value) (A : Around) (outer : List Env) (s : Shared) (H : Hp) (vs : List V) (Q : VK) (E : XK), Room k (A.deeper (envOfC x (defScope st) s.heap.objs.size f cdv)) → sp vs H Q E →
      ∃ t, PSs (cxOf CX0 P w K mg base N x (defScope st) f cdv A outer s H E).nox (defBody st) t ∧ t { nx := fun _ H' => Q .non H', rt := Q } (start N vs) H) : Cl P w K mg base CX0 (k + 1) x ps sp := by
  obtain ⟨f, fd, F, hm, hbd⟩ := D.ex
  exact ⟨f, fd, F.ok S len fun cdv A outer s H vs Q E hr h => hb f cdv A outer s H vs Q E hr h, hm, F.kp, hbd⟩
/-- a pure def -/
theorem Cl.pu {x : PySem.Str} {st : Stmt} {ps N : List PySem.Str} {k : Nat} {Pre : List PyData → Prop} {Post : List PyData → PyData → Prop} (D : Df K mg x st ps) (S : FnScope N ps (defScope st)) (hn : ∀ ds, Pre ds → ds.length = ps.length)
    (hb : ∀ (f : Addr) (cdv : Value) (A : Around) (outer : List Env) (s : Shared) (H : Hp) (vs : List V) (Q : VK) (E : XK) (B : Hp) (ds : List PyData), Room k (A.deeper (envOfC x (defScope st) s.heap.objs.size f cdv)) → Ex B H → DqAll K B vs ds → Pre ds →
      (∀ d, Post ds d → ∀ v B' H', Le [] B H B' H' → Dq K B' v d → Q v H') →
      ∃ t, PSs (cxOf CX0 P w K mg base N x (defScope st) f cdv A outer s H E).nox (defBody st) t ∧ t { nx := fun _ H' => Q .non H', rt := Q } (start N vs) H) : Cl P w K mg base CX0 (k + 1) x ps (Pu K Pre Post) :=
  Cl.of D S (pu_len hn) fun f cdv A outer s H vs Q E hr h => by
    obtain ⟨B, ds, e, h1, h2, q⟩ := h
    exact hb f cdv A outer s H vs Q E B ds hr e h1 h2 q
theorem pe_callC {X : Cx} {CX : CXT} {k : Nat} {x : PySem.Str} {ps : List PySem.Str} {sp : Sp} {E : XK} {p pos : Pos} {e : Expr} {es : List Expr} {t : TA} (C : Cl X.prog X.w X.K X.mg X.base CX k x ps sp) (hr : Room k X.A) (hg : Gl X x) (hx : Passes CX X E)
    (ha : PA X (e :: es) t) (hdb : (x == ("__debug__" : PySem.Str)) = false := by decide) (he : starEach (e :: es) X.env = (false, eval e X.env) :: starEach es X.env := by rfl) (hpl : (backTo pos (starEach es X.env)).any (·.1) = false := by rfl) :
    PE X (.Call (.Name x p) (e :: es) [] pos) (tCall sp [] E t) := by
  obtain ⟨f, fd, F, hm, hk, hb⟩ := C.ex
  exact pe_call F hr hg hm hk hb .nil hx ha hdb he hpl
end
/-! ## arguments, one, two, three -/
section
variable {K : PySem.W.Frag} {H : Hp}
theorem dq1 {vs : List V} {d : PyData} (h : DqAll K H vs [d]) : ∃ v, vs = [v] ∧ Dq K H v d := by
  cases h with
  | cons a b => cases b; exact ⟨_, rfl, a⟩
theorem dq2 {vs : List V} {d e : PyData} (h : DqAll K H vs [d, e]) : ∃ v u, vs = [v, u] ∧ Dq K H v d ∧ Dq K H u e := by
  cases h with
  | cons a b => cases b with | cons b c => cases c; exact ⟨_, _, rfl, a, b⟩
theorem dq3 {vs : List V} {d e f : PyData} (h : DqAll K H vs [d, e, f]) : ∃ v u w, vs = [v, u, w] ∧ Dq K H v d ∧ Dq K H u e ∧ Dq K H w f := by
  cases h with
  | cons a b => cases b with | cons b c => cases c with | cons c z => cases z; exact ⟨_, _, _, rfl, a, b, c⟩
end
/-! ## the program's words: items, lines, commands, scripts -/
def isItemD : PyData → Bool
  | .int i => decide (0 ≤ i) && decide (i < 60)
  | _ => false
def itemsOk : List PyData → Bool
  | [] => true
  | d :: r => isItemD d && itemsOk r
def itemI : PyData → Int
  | .int i => i
  | _ => 0
def isLineD : PyData → Bool
  | .tuple ds => decide (1 ≤ ds.length) && decide (ds.length ≤ 60) && (ds.all isItemD && decide ((ds.map itemI).Nodup))
  | _ => false
def isWord : PyData → Bool
  | .str x => decide (x = "behind") || decide (x = "before")
  | _ => false
def isCommandD : PyData → Bool
  | .tuple [w, a, b] => isWord w && (isItemD a && (isItemD b && !decide (itemI a = itemI b)))
  | _ => false
def isScriptD : PyData → Bool
  | .tuple ds => decide (1 ≤ ds.length) && decide (ds.length ≤ 200) && ds.all isCommandD
  | _ => false
theorem item_int {d : PyData} (h : isItemD d = true) : ∃ i : Int, d = .int i ∧ 0 ≤ i ∧ i < 60 := by
  cases d with
  | int i =>
    simp only [isItemD, Bool.and_eq_true, decide_eq_true_eq] at h
    exact ⟨i, rfl, h.1, h.2⟩
  | _ => simp [isItemD] at h
theorem items_ints : ∀ {ds : List PyData}, ds.all isItemD = true → ds = (ds.map itemI).map PyData.int
  | [], _ => rfl
  | d :: r, h => by
    rw [List.all_cons, Bool.and_eq_true] at h
    obtain ⟨i, rfl, _⟩ := item_int h.1
    rw [List.map_cons, List.map_cons, ← items_ints h.2]
    rfl
end MA

set_option maxRecDepth 100000
set_option maxHeartbeats 4000000
namespace K34
open PySem PySem.Spec PyProof.Rows L2 MA
def topS (i : Nat) : Stmt := PySem.Challenge.pw_moveafter_k34_effects_judged.main.body.getD i (.Pass ⟨0, 0, 0, 0⟩)
abbrev s_named_items : Stmt := topS 6
abbrev N_named_items : List PySem.Str := ["script", "command", "item"]
theorem sc_named_items : FnScope N_named_items ["script"] (defScope s_named_items) := by refine ⟨rfl, rfl, rfl, ?_, rfl, ?_, ?_⟩ <;> decide +kernel
abbrev s_played : Stmt := topS 7
abbrev N_played : List PySem.Str := ["items", "script", "row", "word", "item", "other", "place"]
theorem sc_played : FnScope N_played ["items", "script"] (defScope s_played) := by refine ⟨rfl, rfl, rfl, ?_, rfl, ?_, ?_⟩ <;> decide +kernel
abbrev s_fenced : Stmt := topS 8
abbrev N_fenced : List PySem.Str := ["items", "row", "item"]
theorem sc_fenced : FnScope N_fenced ["items"] (defScope s_fenced) := by refine ⟨rfl, rfl, rfl, ?_, rfl, ?_, ?_⟩ <;> decide +kernel
abbrev s_between_fences : Stmt := topS 9
abbrev N_between_fences : List PySem.Str := ["row", "parts", "item", "part"]
theorem sc_between_fences : FnScope N_between_fences ["row"] (defScope s_between_fences) := by refine ⟨rfl, rfl, rfl, ?_, rfl, ?_, ?_⟩ <;> decide +kernel
abbrev s_effect_of : Stmt := topS 10
abbrev N_effect_of : List PySem.Str := ["script", "named", "blocks", "item", "block"]
theorem sc_effect_of : FnScope N_effect_of ["script"] (defScope s_effect_of) := by refine ⟨rfl, rfl, rfl, ?_, rfl, ?_, ?_⟩ <;> decide +kernel
abbrev s_is_within : Stmt := topS 15
abbrev N_is_within : List PySem.Str := ["value", "least", "most"]
theorem sc_is_within : FnScope N_is_within ["value", "least", "most"] (defScope s_is_within) := by refine ⟨rfl, rfl, rfl, ?_, rfl, ?_, ?_⟩ <;> decide +kernel
abbrev s_is_item : Stmt := topS 16
abbrev N_is_item : List PySem.Str := ["value"]
theorem sc_is_item : FnScope N_is_item ["value"] (defScope s_is_item) := by refine ⟨rfl, rfl, rfl, ?_, rfl, ?_, ?_⟩ <;> decide +kernel
abbrev s_is_command : Stmt := topS 17
abbrev N_is_command : List PySem.Str := ["value", "word", "item", "other"]
theorem sc_is_command : FnScope N_is_command ["value"] (defScope s_is_command) := by refine ⟨rfl, rfl, rfl, ?_, rfl, ?_, ?_⟩ <;> decide +kernel
abbrev s_is_script : Stmt := topS 18
abbrev N_is_script : List PySem.Str := ["value", "command"]
theorem sc_is_script : FnScope N_is_script ["value"] (defScope s_is_script) := by refine ⟨rfl, rfl, rfl, ?_, rfl, ?_, ?_⟩ <;> decide +kernel
abbrev s_require_script : Stmt := topS 19
abbrev N_require_script : List PySem.Str := ["value"]
theorem sc_require_script : FnScope N_require_script ["value"] (defScope s_require_script) := by refine ⟨rfl, rfl, rfl, ?_, rfl, ?_, ?_⟩ <;> decide +kernel
abbrev s_is_effect : Stmt := topS 21
abbrev N_is_effect : List PySem.Str := ["value", "inside", "block", "item"]
theorem sc_is_effect : FnScope N_is_effect ["value"] (defScope s_is_effect) := by refine ⟨rfl, rfl, rfl, ?_, rfl, ?_, ?_⟩ <;> decide +kernel
abbrev s_require_effect : Stmt := topS 22
abbrev N_require_effect : List PySem.Str := ["value"]
theorem sc_require_effect : FnScope N_require_effect ["value"] (defScope s_require_effect) := by refine ⟨rfl, rfl, rfl, ?_, rfl, ?_, ?_⟩ <;> decide +kernel
abbrev s_has_possible_blocks : Stmt := topS 24
abbrev N_has_possible_blocks : List PySem.Str := ["effect", "block", "item"]
theorem sc_has_possible_blocks : FnScope N_has_possible_blocks ["effect"] (defScope s_has_possible_blocks) := by refine ⟨rfl, rfl, rfl, ?_, rfl, ?_, ?_⟩ <;> decide +kernel
abbrev s_is_possible : Stmt := topS 25
abbrev N_is_possible : List PySem.Str := ["effect"]
theorem sc_is_possible : FnScope N_is_possible ["effect"] (defScope s_is_possible) := by refine ⟨rfl, rfl, rfl, ?_, rfl, ?_, ?_⟩ <;> decide +kernel
abbrev s_has_effect : Stmt := topS 26
abbrev N_has_effect : List PySem.Str := ["script", "effect", "blocks", "item", "block"]
theorem sc_has_effect : FnScope N_has_effect ["script", "effect"] (defScope s_has_effect) := by refine ⟨rfl, rfl, rfl, ?_, rfl, ?_, ?_⟩ <;> decide +kernel
abbrev s__law_jug : Stmt := topS 28
abbrev N__law_jug : List PySem.Str := ["script", "k", "cell"]
theorem sc__law_jug : FnScope N__law_jug ["script", "k"] (defScope s__law_jug) := by refine ⟨rfl, rfl, rfl, ?_, rfl, ?_, ?_⟩ <;> decide +kernel
abbrev s__law_drop : Stmt := topS 29
abbrev N__law_drop : List PySem.Str := ["jug", "many", "found", "mixed"]
theorem sc__law_drop : FnScope N__law_drop ["jug", "many"] (defScope s__law_drop) := by refine ⟨rfl, rfl, rfl, ?_, rfl, ?_, ?_⟩ <;> decide +kernel
abbrev s__law_stirred : Stmt := topS 30
abbrev N__law_stirred : List PySem.Str := ["jug", "items", "left", "turn"]
theorem sc__law_stirred : FnScope N__law_stirred ["jug", "items"] (defScope s__law_stirred) := by refine ⟨rfl, rfl, rfl, ?_, rfl, ?_, ?_⟩ <;> decide +kernel
abbrev s__law_script : Stmt := topS 31
abbrev N__law_script : List PySem.Str := ["jug", "items", "most", "count", "way", "size_here", "found", "turn", "at", "to"]
theorem sc__law_script : FnScope N__law_script ["jug", "items", "most"] (defScope s__law_script) := by refine ⟨rfl, rfl, rfl, ?_, rfl, ?_, ?_⟩ <;> decide +kernel
abbrev s__law_blocks : Stmt := topS 32
abbrev N__law_blocks : List PySem.Str := ["items", "script_here", "item", "rows", "word", "other", "key", "row"]
theorem sc__law_blocks : FnScope N__law_blocks ["items", "script_here"] (defScope s__law_blocks) := by refine ⟨rfl, rfl, rfl, ?_, rfl, ?_, ?_⟩ <;> decide +kernel
abbrev s__law_effect : Stmt := topS 33
abbrev N__law_effect : List PySem.Str := ["jug", "most", "way", "count", "items", "item", "homes", "wide", "spot", "ring", "at", "rows", "home", "row", "found", "one", "two"]
theorem sc__law_effect : FnScope N__law_effect ["jug", "most"] (defScope s__law_effect) := by refine ⟨rfl, rfl, rfl, ?_, rfl, ?_, ?_⟩ <;> decide +kernel
abbrev s__law_possible : Stmt := topS 34
abbrev N__law_possible : List PySem.Str := ["effect_here", "homes", "key"]
theorem sc__law_possible : FnScope N__law_possible ["effect_here"] (defScope s__law_possible) := by refine ⟨rfl, rfl, rfl, ?_, rfl, ?_, ?_⟩ <;> decide +kernel
abbrev s__law_changed : Stmt := topS 35
abbrev N__law_changed : List PySem.Str := ["jug", "effect_here", "found", "keys", "one", "two", "key", "way", "lone", "other", "rich", "row"]
theorem sc__law_changed : FnScope N__law_changed ["jug", "effect_here"] (defScope s__law_changed) := by refine ⟨rfl, rfl, rfl, ?_, rfl, ?_, ?_⟩ <;> decide +kernel
abbrev s__law_script_right : Stmt := topS 36
abbrev N__law_script_right : List PySem.Str := ["jug", "items", "most", "script_here", "own", "due", "kept", "item", "more", "wide", "turn", "other", "good", "less", "part", "command"]
theorem sc__law_script_right : FnScope N__law_script_right ["jug", "items", "most"] (defScope s__law_script_right) := by refine ⟨rfl, rfl, rfl, ?_, rfl, ?_, ?_⟩ <;> decide +kernel
abbrev s_law : Stmt := topS 37
abbrev N_law : List PySem.Str := ["script", "k", "jug", "most", "effect_here", "value", "kept", "items", "way", "whole", "turned", "turn", "item"]
theorem sc_law : FnScope N_law ["script"] (defScope s_law) := by refine ⟨rfl, rfl, rfl, ?_, rfl, ?_, ?_⟩ <;> decide +kernel
section
variable {P : Program} {w : World} {K : PySem.W.Frag} {mg : PySem.Str → Option Value} {base : Heap}
def withinD : List PyData → Bool
  | [.int a, .int b, .int c] => decide (b ≤ a) && decide (a ≤ c)
  | _ => false
theorem ok_is_within (D : Df K mg "is_within" s_is_within ["value", "least", "most"]) (z_isinstance : mg "isinstance" = none) (z_int : mg "int" = none) (z_bool : mg "bool" = none) :
    Cl P w K mg base CX0 1 "is_within" ["value", "least", "most"] (Pf K (fun ds => ∃ (d : PyData) (b c : Int), ds = [d, .int b, .int c]) fun ds => .bool (withinD ds)) := by
  refine Cl.pu D sc_is_within (fun ds h => by obtain ⟨a, b, c, rfl⟩ := h; rfl) fun f cdv A outer s H vs Q E B ds hr e hq hp k => ?_
  obtain ⟨d, b, c, rfl⟩ := hp
  obtain ⟨v1, v2, v3, rfl, h1, h2, h3⟩ := dq3 hq
  refine ⟨_, (pss_one (ps_ret (pe_and (pe_callB call_isi (by rfl) z_isinstance (by decide +kernel) (pa_cons (pv 0) (pa_cons (pe_bltn (v := .ty "int") (by rfl) z_int (by decide +kernel) rfl) pa_nil))) (pe_and (pe_not (pe_callB call_isi (by rfl) z_isinstance (by decide +kernel) (pa_cons (pv 0) (pa_cons (pe_bltn (v := .ty "bool") (by rfl) z_bool (by decide +kernel) rfl) pa_nil)))) (pe_one (pe_chain op_le op_le (pv 1) (pv 0) (pv 2))))))), ?_⟩
  refine s_ret (K := K) (d := .bool (withinD [d, .int b, .int c])) ?_ e fun v B' H' l hv => k _ rfl v B' H' l hv
  have x0 : Ev K (tVar 0) (L2.start N_is_within [v1, v2, v3]) B H d := ev_var rfl h1
  have e1 : withinD [d, .int b, .int c] = (isN "int" d && (!isN "bool" d && (decide (b ≤ itemI d) && decide (itemI d ≤ c)))) := by
    cases d <;> first | rfl | (simp [withinD, isN, isNS, tyN, itemI])
  rw [e1]
  refine ev_andV (ev_isi x0 (by decide)) fun h1' => ev_andV (ev_notV (ev_isi x0 (by decide))) fun h2' => ?_
  have hi : ∃ i, d = .int i := by
    cases d with
    | int i => exact ⟨i, rfl⟩
    | bool b => simp [isN, isNS, tyN] at h2'
    | _ => simp [isN, isNS, tyN] at h1'
  obtain ⟨i, rfl⟩ := hi
  exact ev_chain (ev_var rfl h2) x0 (fun _ => ev_var rfl h3) (rv_cmp (g := fun a b => decide (a ≤ b))) fun _ => rv_cmp (g := fun a b => decide (a ≤ b))
theorem ok_is_item (D : Df K mg "is_item" s_is_item ["value"]) (C_is_within : Cl P w K mg base CX0 1 "is_within" ["value", "least", "most"] (Pf K (fun ds => ∃ (d : PyData) (b c : Int), ds = [d, .int b, .int c]) fun ds => .bool (withinD ds))) {t60 : Tok} (g_MOST_ITEMS : mg "MOST_ITEMS" = some (.int 60 t60)) :
    Cl P w K mg base CX0 2 "is_item" ["value"] (Pf K (fun ds => ds.length = 1) fun ds => .bool (isItemD (ds.getD 0 .none))) := by
  refine Cl.pu D sc_is_item (fun ds h => h) fun f cdv A outer s H vs Q E B ds hr e hq hp k => ?_
  obtain ⟨d, rfl⟩ : ∃ d, ds = [d] := by
    cases ds with
    | nil => cases hp
    | cons d r => cases r with
      | nil => exact ⟨d, rfl⟩
      | cons _ _ => cases hp
  obtain ⟨v, rfl, hv⟩ := dq1 hq
  refine ⟨_, (pss_one (ps_ret (pe_callC C_is_within (hr.mono (by decide)) (by rfl) pass0 (pa_cons (pv 0) (pa_cons pe_int (pa_cons (pe_op op_sub (pe_glob (v := .int (60)) (by rfl) g_MOST_ITEMS ⟨_, rfl⟩) pe_int) pa_nil)))))), ?_⟩
  have x0 : Ev K (tVar 0) (start N_is_item [v]) B H d := ev_var rfl hv
  refine s_ret (K := K) (d := .bool (isItemD d)) ?_ e fun v B' H' l hv => k _ rfl v B' H' l hv
  have e1 : isItemD d = withinD [d, .int 0, .int (60 - 1)] := by
    cases d with
    | int i =>
      simp only [isItemD, withinD]
      congr 1
      exact decide_eq_decide.mpr (by omega)
    | _ => rfl
  rw [e1]
  exact ev_call (f := fun ds => .bool (withinD ds)) (ea_cons x0 (ea_cons ev_i (ea_cons (ev_op ev_i ev_i rv_int0) ea_nil))) ⟨d, 0, _, rfl⟩
end
end K34

set_option maxRecDepth 100000
set_option maxHeartbeats 2000000
namespace MA
open PySem PySem.Spec PyProof.Rows L2
theorem range_getD {α β : Type} (dflt : α) (p : α → Bool) (h : α → β) : ∀ (l : List α), (((List.range l.length).filter fun i => p (l.getD i dflt)).map fun i => h (l.getD i dflt)) = (l.filter p).map h := by
  intro l
  have e : (List.range l.length).map (fun i => l.getD i dflt) = l := by
    apply List.ext_getElem
    · simp
    · intro i h1 h2
      simp [List.getD, h2]
  have e2 : ((List.range l.length).filter fun i => p (l.getD i dflt)).map (fun i => h (l.getD i dflt)) = (((List.range l.length).map (fun i => l.getD i dflt)).filter p).map h := by
    rw [List.filter_map, List.map_map]
    rfl
  rw [e2, e]
theorem getD_of {α : Type} {l : List α} {i : Nat} {d dflt : α} (h : l[i]? = some d) : l.getD i dflt = d := by simp [List.getD, h]
section
variable {K : PySem.W.Frag} {σ : L2.St} {B H : Hp} {tl te : TE} {tt : TT}
theorem ev_compL {xs : List PyData} {j : Nat} {vs : List Nat} (p : PyData → Bool) (h : PyData → PyData) (hl : Ev K tl σ B H (.list xs)) (hz : xs.length ≤ 100000)
    (ht : ∀ (d : PyData) (v : V) B1 H1, Le [] B H B1 H1 → d ∈ xs → Dq K B1 v d → EvT tt ((wipe σ vs).set j (some v)) B1 H1 (p d))
    (he : ∀ (d : PyData) (v : V) B1 H1, Le [] B H B1 H1 → d ∈ xs → Dq K B1 v d → p d = true → Ev K te ((wipe σ vs).set j (some v)) B1 H1 (h d)) (hw : ∀ x, wipe ((wipe σ vs).set j (some x)) vs = wipe σ vs := by intro _; rfl) :
    Ev K (tLc (iList K tl) (gName j) tt te vs) σ B H (.list ((xs.filter p).map h)) := by
  have z := ev_lcL (te := te) (tt := tt) (j := j) (vs := vs) (fun i => p (xs.getD i .none)) (fun i => h (xs.getD i .none)) hl hz hw
    (fun i d v B1 H1 l hd hv => by rw [getD_of hd]; exact ht d v B1 H1 l (List.mem_of_getElem? hd) hv) (fun i d v B1 H1 l hd hv hf => by rw [getD_of hd] at hf ⊢; exact he d v B1 H1 l (List.mem_of_getElem? hd) hv hf)
  unfold picked at z
  rwa [range_getD] at z
theorem ev_compT {xs : List PyData} {j : Nat} {vs : List Nat} (p : PyData → Bool) (h : PyData → PyData) (hl : Ev K tl σ B H (.tuple xs)) (hz : xs.length ≤ 100000)
    (ht : ∀ (d : PyData) (v : V) B1 H1, Le [] B H B1 H1 → d ∈ xs → Dq K B1 v d → EvT tt ((wipe σ vs).set j (some v)) B1 H1 (p d))
    (he : ∀ (d : PyData) (v : V) B1 H1, Le [] B H B1 H1 → d ∈ xs → Dq K B1 v d → p d = true → Ev K te ((wipe σ vs).set j (some v)) B1 H1 (h d)) (hw : ∀ x, wipe ((wipe σ vs).set j (some x)) vs = wipe σ vs := by intro _; rfl) :
    Ev K (tLc (iTup K tl) (gName j) tt te vs) σ B H (.list ((xs.filter p).map h)) := by
  have z := ev_lcT (te := te) (tt := tt) (j := j) (vs := vs) (fun i => p (xs.getD i .none)) (fun i => h (xs.getD i .none)) hl hz hw
    (fun i d v B1 H1 l hd hv => by rw [getD_of hd]; exact ht d v B1 H1 l (List.mem_of_getElem? hd) hv) (fun i d v B1 H1 l hd hv hf => by rw [getD_of hd] at hf ⊢; exact he d v B1 H1 l (List.mem_of_getElem? hd) hv hf)
  unfold picked at z
  rwa [range_getD] at z
end
section
variable {K : PySem.W.Frag} {σ : L2.St} {B H : Hp} {te : TE} {t : TT} {D : Ends} {tu tw tz : TS} {d : PyData}
/-- an if without else, then the rest -/
theorem q_when {k : Bool} (h : EvT t σ B H k) (e : Ex B H) (h1 : k = true → ∀ B' H', Le [] B H B' H' → tu { D with nx := tz D } σ H') (h2 : k = false → ∀ B' H', Le [] B H B' H' → tz D σ H') : tSeq (tIfS t tu tNext) tz D σ H := s_if (D := { D with nx := tz D }) h e h1 h2
theorem s_when {k : Bool} (h : EvT t σ B H k) (e : Ex B H) (h1 : k = true → ∀ B' H', Le [] B H B' H' → tu D σ H') (h2 : k = false → ∀ B' H', Le [] B H B' H' → D.nx σ H') : tIfS t tu tNext D σ H := s_if h e h1 h2
theorem q_set {i : Nat} (h : Ev K te σ B H d) (e : Ex B H) (q : ∀ v B' H', Le [] B H B' H' → Dq K B' v d → tz D (σ.set i (some v)) H') : tSeq (tAsg te (gName i)) tz D σ H := s_set (D := { D with nx := tz D }) h e q
theorem q_drop (h : Ev K te σ B H d) (e : Ex B H) (q : ∀ B' H', Le [] B H B' H' → tz D σ H') : tSeq (tDrop te) tz D σ H := s_drop (D := { D with nx := tz D }) h e q
/-- a, b, c = a tuple -/
theorem gt3 {a b c : PyData} {i j l : Nat} {v : V} {Q : L2.St → Hp → Prop} (e : Ex B H) (hv : Dq K B v (.tuple [a, b, c])) (q : ∀ x y z, Dq K B x a → Dq K B y b → Dq K B z c → Q (((σ.set i (some x)).set j (some y)).set l (some z)) H) :
    gTup K 3 (gCons (gName i) (gCons (gName j) (gCons (gName l) gNil))) v σ H Q := by
  cases hv with
  | tup h1 q1 =>
    obtain ⟨x, y, z, rfl, hx, hy, hz⟩ := dq3 q1
    exact ⟨_, _, rfl, Evl.ex_t e h1, rfl, x, _, rfl, y, _, rfl, z, _, rfl, rfl, q x y z hx hy hz⟩
theorem gt2 {a b : PyData} {i j : Nat} {v : V} {Q : L2.St → Hp → Prop} (e : Ex B H) (hv : Dq K B v (.tuple [a, b])) (q : ∀ x y, Dq K B x a → Dq K B y b → Q ((σ.set i (some x)).set j (some y)) H) :
    gTup K 2 (gCons (gName i) (gCons (gName j) gNil)) v σ H Q := by
  cases hv with
  | tup h1 q1 =>
    obtain ⟨x, y, rfl, hx, hy⟩ := dq2 q1
    exact ⟨_, _, rfl, Evl.ex_t e h1, rfl, x, _, rfl, y, _, rfl, rfl, q x y hx hy⟩
end
section
variable {K : PySem.W.Frag} {σ : L2.St} {B H : Hp} {te : TE} {D : Ends} {tz : TS} {a b c : PyData}
theorem q_asg3 {i j l : Nat} (h : Ev K te σ B H (.tuple [a, b, c])) (e : Ex B H) (q : ∀ x y z B' H', Le [] B H B' H' → Dq K B' x a → Dq K B' y b → Dq K B' z c → tz D (((σ.set i (some x)).set j (some y)).set l (some z)) H') :
    tSeq (tAsg te (gTup K 3 (gCons (gName i) (gCons (gName j) (gCons (gName l) gNil))))) tz D σ H := h B H (Le.refl e) _ fun v B' H' l hv => gt3 l.h hv fun x y z hx hy hz => q x y z B' H' l hx hy hz
theorem q_asg2 {i j : Nat} (h : Ev K te σ B H (.tuple [a, b])) (e : Ex B H) (q : ∀ x y B' H', Le [] B H B' H' → Dq K B' x a → Dq K B' y b → tz D ((σ.set i (some x)).set j (some y)) H') :
    tSeq (tAsg te (gTup K 2 (gCons (gName i) (gCons (gName j) gNil)))) tz D σ H := h B H (Le.refl e) _ fun v B' H' l hv => gt2 l.h hv fun x y hx hy => q x y B' H' l hx hy
end
def rStrI : List V → Hp → VK → Prop := fun xs H Q => ∃ i, xs = [V.int i] ∧ i.natAbs.log2 < 1920 ∧ Q (.str (toString i)) H
theorem filter_true {α : Type} (l : List α) : (l.filter fun _ => true) = l := by simp
/-- pure, one argument -/
abbrev Pf1 (K : PySem.W.Frag) (Pre : PyData → Prop) (f : PyData → PyData) : Sp := Pf K (fun ds => ∃ d, ds = [d] ∧ Pre d) fun ds => f (ds.getD 0 .none)
section
variable {P : Program} {w : World} {K : PySem.W.Frag} {mg : PySem.Str → Option Value} {base : Heap} {σ : L2.St} {B H : Hp} {te : TE}
theorem Cl.pu1 {x : PySem.Str} {st : Stmt} {a : PySem.Str} {N : List PySem.Str} {k : Nat} {Pre : PyData → Prop} {g : PyData → PyData} (D : Df K mg x st [a]) (S : FnScope N [a] (defScope st))
    (hb : ∀ (f : Addr) (cdv : Value) (A : Around) (outer : List Env) (s : Shared) (H : Hp) (v : V) (Q : VK) (E : XK) (B : Hp) (d : PyData), Room k (A.deeper (envOfC x (defScope st) s.heap.objs.size f cdv)) → Ex B H → Dq K B v d → Pre d →
      (∀ v B' H', Le [] B H B' H' → Dq K B' v (g d) → Q v H') →
      ∃ t, PSs (cxOf CX0 P w K mg base N x (defScope st) f cdv A outer s H E).nox (defBody st) t ∧ t { nx := fun _ H' => Q .non H', rt := Q } (start N [v]) H) : Cl P w K mg base CX0 (k + 1) x [a] (Pf1 K Pre g) :=
  Cl.pu D S (fun ds h => by obtain ⟨d, rfl, _⟩ := h; rfl) fun f cdv A outer s H vs Q E B ds hr e hq hp k => by
    obtain ⟨d, rfl, hd⟩ := hp
    obtain ⟨v, rfl, hv⟩ := dq1 hq
    exact hb f cdv A outer s H v Q E B d hr e hv hd fun v B' H' l hv => k _ rfl v B' H' l hv
theorem ev_call1 {Pre : PyData → Prop} {g : PyData → PyData} {E : XK} {d : PyData} (h : Ev K te σ B H d) (hp : Pre d) : Ev K (tCall (Pf1 K Pre g) [] E (tCons te tNil)) σ B H (g d) := ev_call (f := fun ds => g (ds.getD 0 .none)) (ea_cons h ea_nil) ⟨d, rfl, hp⟩
end
def tlen : PyData → Nat
  | .tuple ds => ds.length
  | _ => 0
theorem isT {d : PyData} (h : isN "tuple" d = true) : ∃ ds, d = .tuple ds := by
  cases d with
  | tuple ds => exact ⟨ds, rfl⟩
  | _ => simp [isN, isNS, tyN] at h
theorem isS {d : PyData} (h : isN "str" d = true) : ∃ x, d = .str x := by
  cases d with
  | str x => exact ⟨x, rfl⟩
  | _ => simp [isN, isNS, tyN] at h
theorem all_id {ds : List PyData} (p : PyData → Bool) : (ds.map p).all id = ds.all p := by
  induction ds with
  | nil => rfl
  | cons d r ih => rw [List.map_cons, List.all_cons, List.all_cons, ih]; rfl
theorem rc_allD {K : PySem.W.Frag} {ds : List PyData} (p : PyData → Bool) : RC K (rAll K) [.list (ds.map fun d => .bool (p d))] (.bool (ds.all p)) := by
  have h := rc_all (K := K) (bs := ds.map p)
  rw [all_id, List.map_map] at h
  exact h
end MA

set_option maxRecDepth 100000
set_option maxHeartbeats 4000000
namespace K34
open PySem PySem.Spec PyProof.Rows L2 MA
section
variable {P : Program} {w : World} {K : PySem.W.Frag} {mg : PySem.Str → Option Value} {base : Heap}
theorem ok_is_item1 {z : Sp} (C : Cl P w K mg base CX0 2 "is_item" ["value"] (Pf K (fun ds => ds.length = 1) fun ds => .bool (isItemD (ds.getD 0 .none)))) : Cl P w K mg base CX0 2 "is_item" ["value"] (Pf1 K (fun _ => True) fun d => .bool (isItemD d)) :=
  C.imp fun vs H Q E h => by
    obtain ⟨B, ds, e, h1, ⟨d, rfl, _⟩, q⟩ := h
    exact ⟨B, [d], e, h1, rfl, q⟩
end
end K34

set_option maxRecDepth 100000
set_option maxHeartbeats 2000000
namespace MA
open PySem PySem.Spec PyProof.Rows L2

/-! ## strictly ascending lists of the same members -/
theorem asc_eq : ∀ {xs ys : List Int}, xs.Pairwise (· < ·) → ys.Pairwise (· < ·) → (∀ k, k ∈ xs ↔ k ∈ ys) → xs = ys
  | [], [], _, _, _ => rfl
  | [], y :: ys, _, _, h => absurd ((h y).mpr (List.mem_cons_self ..)) (by simp)
  | x :: xs, [], _, _, h => absurd ((h x).mp (List.mem_cons_self ..)) (by simp)
  | x :: xs, y :: ys, h1, h2, h => by
    rw [List.pairwise_cons] at h1 h2
    have a : x ≤ y := by
      rcases List.mem_cons.mp ((h y).mpr (List.mem_cons_self ..)) with e | m
      · omega
      · have := h1.1 y m; omega
    have b : y ≤ x := by
      rcases List.mem_cons.mp ((h x).mp (List.mem_cons_self ..)) with e | m
      · omega
      · have := h2.1 x m; omega
    have e : x = y := by omega
    subst e
    congr 1
    refine asc_eq h1.2 h2.2 fun k => ⟨fun m => ?_, fun m => ?_⟩
    · rcases List.mem_cons.mp ((h k).mp (List.mem_cons_of_mem _ m)) with z | z
      · have := h1.1 k m; omega
      · exact z
    · rcases List.mem_cons.mp ((h k).mpr (List.mem_cons_of_mem _ m)) with z | z
      · have := h2.1 k m; omega
      · exact z
/-- the ints below 60 for which p holds, ascending -/
def below (p : Int → Bool) : List Int := ((List.range 60).map fun (n : Nat) => (n : Int)).filter p
theorem mem_below {p : Int → Bool} {k : Int} : k ∈ below p ↔ 0 ≤ k ∧ k < 60 ∧ p k = true := by
  unfold below
  rw [List.mem_filter, List.mem_map]
  constructor
  · rintro ⟨⟨n, hn, rfl⟩, h⟩
    have := List.mem_range.mp hn
    exact ⟨by omega, by omega, h⟩
  · rintro ⟨h1, h2, h3⟩
    exact ⟨⟨k.toNat, List.mem_range.mpr (by omega), by omega⟩, h3⟩
theorem below_asc (p : Int → Bool) : (below p).Pairwise (· < ·) := by
  unfold below
  refine List.Pairwise.filter _ ?_
  rw [List.pairwise_map]
  exact List.Pairwise.imp (fun {a b} h => by omega) List.pairwise_lt_range
theorem below_nodup (p : Int → Bool) : (below p).Nodup := List.Pairwise.imp (fun {a b} h => by omega) (below_asc p)
theorem below_len (p : Int → Bool) : (below p).length ≤ 60 := by
  unfold below
  have := List.length_filter_le p ((List.range 60).map fun (n : Nat) => (n : Int))
  simpa using this
theorem nodup_le : ∀ (l m : List Int), l.Nodup → (∀ k ∈ l, k ∈ m) → l.length ≤ m.length
  | [], _, _, _ => Nat.zero_le _
  | x :: l, m, hn, h => by
    rw [List.nodup_cons] at hn
    have hx := h x (List.mem_cons_self ..)
    have h1 := nodup_le l (m.erase x) hn.2 fun k hk => by
      have hne : k ≠ x := fun e => hn.1 (e ▸ hk)
      exact (List.mem_erase_of_ne hne).mpr (h k (List.mem_cons_of_mem _ hk))
    have h2 : (m.erase x).length = m.length - 1 := List.length_erase_of_mem hx
    have h3 : 0 < m.length := List.length_pos_of_mem hx
    rw [List.length_cons]
    omega
/-! ## sorted({elt for t0 in i0 for elt in i1}) of ints below 60 -/
section
variable {K : PySem.W.Frag} {w : World} {σ : L2.St} {B H : Hp} {tl tl1 : TE}
/-- the set at D holds the ints of l -/
def SetIs (w : World) (H : Hp) (D : Addr) (l : List Int) : Prop := l.Nodup ∧ (∀ k ∈ l, 0 ≤ k ∧ k < 60) ∧ ∃ S : Int → Bool, H D = some (SetO w D S l.length) ∧ ∀ k, S k = true ↔ k ∈ l
theorem SetIs.small {D : Addr} {l : List Int} (h : SetIs w H D l) : l.length ≤ 60 := by
  have h1 := nodup_le l (below fun _ => true) h.1 fun k hk => mem_below.mpr ⟨(h.2.1 k hk).1, (h.2.1 k hk).2, rfl⟩
  have h2 := below_len fun _ => true
  omega
/-- the word: the ints of the first i commands and of j more -/
def Sw (K : PySem.W.Frag) (w : World) (B H : Hp) (D : Addr) (p : Int → Prop) (Hi : Hp) : Prop := ∃ Bi l, Le [] B H Bi Hi ∧ Bi D = none ∧ SetIs w Hi D l ∧ ∀ k, k ∈ l ↔ p k
theorem Sw.add {D : Addr} {p q : Int → Prop} {Hi : Hp} {z : Int} (hD : H D = none) (h : Sw K w B H D p Hi) (hz : 0 ≤ z ∧ z < 60) (hq : ∀ k, q k ↔ p k ∨ k = z) :
    ∃ (S : Int → Bool) (n : Nat), Hi D = some (SetO w D S n) ∧ n + 1 < scanBound ∧ Sw K w B H D q (upd Hi D (SetO w D (fun j => S j || decide (j = z)) (if S z = true then n else n + 1))) := by
  obtain ⟨Bi, l, le, hb, hs, hm⟩ := h
  have sm := hs.small
  obtain ⟨hn, hr, S, e, hS⟩ := hs
  refine ⟨S, l.length, e, by unfold scanBound; omega, Bi, if z ∈ l then l else l ++ [z], ?_, hb, ?_, fun k => ?_⟩
  · have l5 := Le.put (M := [D]) (o := SetO w D (fun j => S j || decide (j = z)) (if S z = true then l.length else l.length + 1)) le.h hb (by simp)
    refine ⟨le.b, l5.h, fun a o _ e => ?_, fun a e => l5.t a (le.t a e), le.n⟩
    have hne : a ≠ D := fun z => by rw [z, hD] at e; cases e
    rw [upd_ne hne]
    exact le.k a o (by simp) e
  · by_cases hz' : z ∈ l
    · rw [if_pos hz', if_pos ((hS z).mpr hz')]
      refine ⟨hn, hr, _, upd_same, fun k => ?_⟩
      rw [Bool.or_eq_true, hS k, decide_eq_true_eq]
      exact ⟨fun x => x.elim id fun e => e ▸ hz', .inl⟩
    · rw [if_neg hz', if_neg (fun q => hz' ((hS z).mp q))]
      refine ⟨?_, fun k hk => ?_, (fun j => S j || decide (j = z)), ?_, fun k => ?_⟩
      · rw [List.nodup_append]
        refine ⟨hn, by simp, fun a ha b hb e => ?_⟩
        rw [List.mem_singleton] at hb
        exact hz' (by rw [← hb, ← e]; exact ha)
      · rcases List.mem_append.mp hk with m | m
        · exact hr k m
        · rw [List.mem_singleton.mp m]; exact hz
      · rw [List.length_append]; exact upd_same
      · rw [Bool.or_eq_true, hS k, decide_eq_true_eq, List.mem_append, List.mem_singleton]
  · rw [hq k, ← hm k]
    split
    · rename_i hz'
      exact ⟨.inl, fun x => x.elim id fun e => e ▸ hz'⟩
    · rw [List.mem_append, List.mem_singleton]
/-- as Ev, and the answer is a new object -/
def EvN (K : PySem.W.Frag) (te : TE) (σ : L2.St) (B H : Hp) (d : PyData) : Prop := ∀ B1 H1, Le [] B H B1 H1 → ∀ Q : VK, (∀ v B2 H2, Le [] B1 H1 B2 H2 → (∃ a, v = .ref a ∧ H1 a = none) → Dq K B2 v d → Q v H2) → te σ H1 Q
theorem EvN.ev {te : TE} {d : PyData} (h : EvN K te σ B H d) : Ev K te σ B H d := fun B1 H1 l Q q => h B1 H1 l Q fun v B2 H2 l2 _ hv => q v B2 H2 l2 hv
theorem Le.back {M : List Addr} {B' H' : Hp} (l : Le M B H B' H') {a : Addr} (h : H' a = none) : H a = none := by
  cases z : H a with
  | none => rfl
  | some o => exact absurd h (l.t a (by rw [z]; simp))
theorem evN_sortedSet {xs : List PyData} {j0 j1 : Nat} {vs vs1 : List Nat} (f : PyData → List Int) (hl : Ev K tl σ B H (.tuple xs)) (hf : ∀ d ∈ xs, ∀ k ∈ f d, 0 ≤ k ∧ k < 60)
    (hi : ∀ (d : PyData) (v : V) B1 H1, Le [] B H B1 H1 → d ∈ xs → Dq K B1 v d → Ev K tl1 ((wipe σ vs).set j0 (some v)) B1 H1 (.tuple ((f d).map PyData.int)))
    (hw : ∀ x, wipe ((wipe σ vs).set j0 (some x)) vs = wipe σ vs := by intro _; rfl)
    (hw1 : ∀ x y, wipe ((wipe ((wipe σ vs).set j0 (some x)) vs1).set j1 (some y)) vs1 = wipe ((wipe σ vs).set j0 (some x)) vs1 := by intro _ _; rfl)
    (hg : ∀ x y, ((wipe ((wipe σ vs).set j0 (some x)) vs1).set j1 (some y))[j1]? = some (some y) := by intro _ _; rfl) :
    EvN K (tCB (rSortedSet w) (tCons (tSc2 w (iTup K tl) (gName j0) (iTup K tl1) (gName j1) (tVar j1) vs vs1) tNil)) σ B H (.list ((below fun k => xs.any fun d => decide (k ∈ f d)).map PyData.int)) := fun B0 H0 l0 Q q => by
  refine hl B0 H0 l0 _ fun u B1 H1 l1 hu => ?_
  cases hu with
  | tup hs hq =>
    rename_i a ys
    refine ⟨a, rfl, ⟨ys, Evl.ex_t l1.h hs⟩, fun D hD => ?_⟩
    have b1 : B1 D = none := by
      cases z : B1 D with
      | none => rfl
      | some o => rw [l1.h D o z] at hD; cases hD
    refine ⟨fun i m Hi => m = ys.length - i ∧ i ≤ ys.length ∧ Sw K w B1 H1 D (fun k => ∃ d ∈ xs.take i, k ∈ f d) Hi, ⟨_, rfl, Nat.zero_le _, B1, [], Le.made l1.h hD, b1, ⟨by simp, by simp, _, upd_same, by simp⟩, by simp⟩, ?_⟩
    rintro i m Hi ⟨rfl, hi', p⟩
    have hsq : SqT K Hi a ys := by
      obtain ⟨Bi, l, le, _⟩ := p
      exact Evl.ex_t (le.b.trans le.h) hs
    by_cases hlt : i < ys.length
    · have hy : ys[i]? = some ys[i] := List.getElem?_eq_getElem hlt
      obtain ⟨d, hd, hx⟩ := hq.get hy
      have hdm : d ∈ xs := List.mem_of_getElem? hd
      refine .inr ⟨⟨ys, ys[i], hsq, hy⟩, fun Hn => Sw K w B1 H1 D (fun k => ∃ d ∈ xs.take (i + 1), k ∈ f d) Hn, fun Hn p' => ⟨ys.length - (i + 1), by omega, rfl, hlt, p'⟩, fun x Hy y => ?_⟩
      obtain ⟨rfl, y⟩ := y
      have ex : x = ys[i] := Option.some.inj ((y ys hsq).symm.trans hy)
      subst ex
      refine ⟨hw _, ?_⟩
      have htake : xs.take (i + 1) = xs.take i ++ [d] := by rw [List.take_add_one, hd]; rfl
      obtain ⟨Bi, l, le, hb, hs1, hm⟩ := p
      refine hi d ys[i] Bi Hy (l0.trans (l1.trans le)) hdm (hx.mono le.b) Bi Hy (Le.refl le.h) _ fun u2 B2 H2 l2 hu2 => ?_
      have b2 : B2 D = none := by
        obtain ⟨_, _, S, e, _⟩ := hs1
        exact l2.own e hb
      cases hu2 with
      | tup hs2 hq2 =>
        rename_i a2 ys2
        cases ofInts hq2
        have start : Sw K w B1 H1 D (fun k => (∃ d ∈ xs.take i, k ∈ f d) ∨ k ∈ (f d).take 0) H2 := by
          obtain ⟨h1, h2, S, e, hS⟩ := hs1
          exact ⟨B2, l, le.trans l2, b2, ⟨h1, h2, S, l2.k D _ (by simp) e, hS⟩, fun k => by rw [hm k]; simp⟩
        have keepT : ∀ {Hj : Hp} {pp : Int → Prop}, Sw K w B1 H1 D pp Hj → Ex B2 Hj → SqT K Hj a2 ((f d).map V.int) := fun {Hj pp} _ e => Evl.ex_t e hs2
        refine ⟨a2, rfl, ⟨_, Evl.ex_t l2.h hs2⟩, fun j kk Hj => kk = (f d).length - j ∧ j ≤ (f d).length ∧ Ex B2 Hj ∧ Sw K w B1 H1 D (fun k => (∃ d ∈ xs.take i, k ∈ f d) ∨ k ∈ (f d).take j) Hj, ⟨_, rfl, Nat.zero_le _, l2.h, start⟩, ?_⟩
        rintro j kk Hj ⟨rfl, hj, ex2, p2⟩
        have hsq2 : SqT K Hj a2 ((f d).map V.int) := Evl.ex_t ex2 hs2
        by_cases hlt2 : j < (f d).length
        · have hz : (f d)[j]? = some (f d)[j] := List.getElem?_eq_getElem hlt2
          have hzv : ((f d).map V.int)[j]? = some (.int (f d)[j]) := by rw [List.getElem?_map, hz]; rfl
          refine .inr ⟨⟨_, _, hsq2, hzv⟩, fun Hn => Ex B2 Hn ∧ Sw K w B1 H1 D (fun k => (∃ d ∈ xs.take i, k ∈ f d) ∨ k ∈ (f d).take (j + 1)) Hn, fun Hn p' => ⟨(f d).length - (j + 1), by omega, rfl, hlt2, p'⟩, fun x2 Hy2 y2 => ?_⟩
          obtain ⟨rfl, y2⟩ := y2
          have ex3 : x2 = .int (f d)[j] := Option.some.inj ((y2 _ hsq2).symm.trans hzv)
          subst ex3
          refine ⟨hw1 _ _, .int (f d)[j], hg _ _, ?_⟩
          obtain ⟨S, n, e1, e2, e3⟩ := Sw.add (q := fun k => (∃ d ∈ xs.take i, k ∈ f d) ∨ k ∈ (f d).take (j + 1)) hD p2 (hf d hdm _ (List.getElem_mem hlt2)) fun k => by
            rw [List.take_add_one, hz]
            simp only [Option.toList, List.mem_append, List.mem_singleton]
            rw [or_assoc]
          refine ⟨_, S, n, rfl, e1, e2, fun c o e => ?_, e3⟩
          have hne : c ≠ D := fun z => by rw [z, b2] at e; cases e
          rw [upd_ne hne]
          exact ex2 c o e
        · refine .inl ⟨⟨_, hsq2, by rw [List.length_map]; omega⟩, ?_⟩
          have ej : j = (f d).length := by omega
          subst ej
          obtain ⟨B3, l3, h3, h4, h5, h6⟩ := p2
          refine ⟨B3, l3, h3, h4, h5, fun k => ?_⟩
          rw [h6 k, List.take_length, htake]
          simp only [List.mem_append, List.mem_singleton]
          constructor
          · rintro (⟨d', m, hk⟩ | hk)
            · exact ⟨d', .inl m, hk⟩
            · exact ⟨d, .inr rfl, hk⟩
          · rintro ⟨d', m | rfl, hk⟩
            · exact .inl ⟨d', m, hk⟩
            · exact .inr hk
    · have ei : i = ys.length := by omega
      subst ei
      refine .inl ⟨⟨ys, hsq, Nat.le_refl _⟩, ?_⟩
      obtain ⟨Bi, l, le, hb, hs1, hm⟩ := p
      have sm := hs1.small
      obtain ⟨h1, h2, S, e, hS⟩ := hs1
      refine ⟨D, S, l.length, rfl, e, by omega, fun ns pa hasc hmem hlen hpa => ?_⟩
      have ens : ns = below fun k => xs.any fun d => decide (k ∈ f d) := by
        refine asc_eq hasc (below_asc _) fun k => ?_
        rw [hmem k, hS k, hm k, mem_below, hq.length, List.take_length]
        constructor
        · rintro ⟨d, m, hk⟩
          exact ⟨(hf d m k hk).1, (hf d m k hk).2, List.any_eq_true.mpr ⟨d, m, decide_eq_true hk⟩⟩
        · rintro ⟨_, _, h⟩
          obtain ⟨d, m, hk⟩ := List.any_eq_true.mp h
          exact ⟨d, m, of_decide_eq_true hk⟩
      subst ens
      have ln := Le.new (M := []) (o := .lst ((below fun k => xs.any fun d => decide (k ∈ f d)).map V.int)) le.h hpa
      exact q (.ref pa) _ _ (l1.trans (le.trans ln)) ⟨pa, rfl, (l1.trans le).back hpa⟩ (.lst upd_same (dqInts _))
end
end MA

set_option maxRecDepth 100000
set_option maxHeartbeats 4000000
namespace K34
open PySem PySem.Spec PyProof.Rows L2 MA
section
variable {P : Program} {w : World} {K : PySem.W.Frag} {mg : PySem.Str → Option Value} {base : Heap}
theorem three_of {ds : List PyData} (h : ds.length = 3) : ∃ a b c, ds = [a, b, c] := by
  match ds, h with
  | [a, b, c], _ => exact ⟨a, b, c, rfl⟩
theorem ok_is_command (D : Df K mg "is_command" s_is_command ["value"]) (C_is_item : Cl P w K mg base CX0 2 "is_item" ["value"] (Pf1 K (fun _ => True) fun d => .bool (isItemD d)))
    (z_isinstance : mg "isinstance" = none) (z_tuple : mg "tuple" = none) (z_len : mg "len" = none) (z_str : mg "str" = none) {a_WORDS : Addr} (g_WORDS : mg "WORDS" = some (.ref a_WORDS)) (hW : ∀ H, SqT K H a_WORDS [.str "behind", .str "before"]) :
    Cl P w K mg base CX0 3 "is_command" ["value"] (Pf1 K (fun _ => True) fun d => .bool (isCommandD d)) := by
  refine Cl.pu1 D sc_is_command fun f cdv A outer s H v Q E B d hr e hv hp k => ?_
  have hu := hr.units0
  refine ⟨_, (pss_cons (ps_if ((pw_or (pt_not (pt_val (pe_callB call_isi (by rfl) z_isinstance (by decide +kernel) (pa_cons (pv 0) (pa_cons (pe_bltn (v := .ty "tuple") (by rfl) z_tuple (by decide +kernel) rfl) pa_nil))))) (pw_or1 (pt_cmpR (op_neA hu) (pe_callB call_len_seq (by rfl) z_len PySem.boot_len (pa_cons (pv 0) pa_nil)) pe_int (nomark _))))).pt (pss_one (ps_ret pe_bl)) pss_nil) (pss_cons (ps_asg (pv 0) (pg_tup rfl (pgs_cons (pg_name (i := 1) sc_is_command.nd rfl (.inl rfl)) (pgs_cons (pg_name (i := 2) sc_is_command.nd rfl (.inl rfl)) (pgs_cons (pg_name (i := 3) sc_is_command.nd rfl (.inl rfl)) pgs_nil))))) (pss_cons (ps_if ((pw_or (pt_not (pt_val (pe_callB call_isi (by rfl) z_isinstance (by decide +kernel) (pa_cons (pv 1) (pa_cons (pe_bltn (v := .ty "str") (by rfl) z_str (by decide +kernel) rfl) pa_nil))))) (pw_or1 (pt_cmpR op_notIn_seq (pv 1) (pe_glob (v := .ref a_WORDS) (by rfl) g_WORDS rfl) (by rfl))))).pt (pss_one (ps_ret pe_bl)) pss_nil) (pss_one (ps_ret (pe_and (pe_callC C_is_item (hr.mono (by decide)) (by rfl) pass0 (pa_cons (pv 2) pa_nil)) (pe_and (pe_callC C_is_item (hr.mono (by decide)) (by rfl) pass0 (pa_cons (pv 3) pa_nil)) (pe_one (pe_cmpR (op_neA hu) (pv 2) (pv 3) (nomark _)))))))))), ?_⟩
  have x0 : Ev K (tVar 0) (start N_is_command [v]) B H d := ev_var rfl hv
  refine q_when (k := !isN "tuple" d || !decide ((tlen d : Int) = 3)) ?_ e ?_ ?_
  · refine et_or (et_not (et_B (ev_isi x0 (by decide)))) fun h1 => ?_
    obtain ⟨ds, rfl⟩ := isT (by simpa using h1)
    exact et_test (ev_op (ev_cb (ea_cons x0 ea_nil) rc_lenT) ev_i rv_neI)
  · intro h1 B1 H1 l
    refine s_ret (K := K) (d := .bool false) ev_b l.h fun v B' H' l2 hv => k v B' H' (l.trans l2) ?_
    have : isCommandD d = false := by
      cases z : isCommandD d with
      | false => rfl
      | true =>
        exfalso
        unfold isCommandD at z
        split at z
        · simp [isN, isNS, tyN, tlen] at h1
        · cases z
    show Dq K B' v (.bool (isCommandD d))
    rw [this]
    exact hv
  intro h1 B1 H1 l
  simp only [Bool.or_eq_false_iff, Bool.not_eq_false', decide_eq_true_eq] at h1
  obtain ⟨ds, rfl⟩ := isT h1.1
  obtain ⟨wd, a, b, rfl⟩ := three_of (show ds.length = 3 by have := h1.2; simp only [tlen] at this; omega)
  refine q_asg3 (x0.up l) l.h fun x y z B2 H2 l2 hx hy hz => ?_
  refine q_when (k := !isN "str" wd || !isWord wd) ?_ l2.h ?_ ?_
  · refine et_or (et_not (et_B (ev_isi (ev_var rfl hx) (by decide)))) fun h2 => ?_
    obtain ⟨str, rfl⟩ := isS (by simpa using h2)
    have c := rv_notInTS (K := K) (i := str) (ns := ["behind", "before"])
    have e1 : isWord (.str str) = decide (str ∈ (["behind", "before"] : List PySem.Str)) := by
      simp only [isWord, List.mem_cons, List.mem_nil_iff, or_false]
      by_cases p : str = "behind"
      · simp [p]
      · by_cases q : str = "before" <;> simp [p, q]
    rw [e1]
    refine et_test (ev_op (ev_var rfl hx) (ev_c (.tup (hW B2) (dqStrs ["behind", "before"]))) c)
  · intro h2 B3 H3 l3
    refine s_ret (K := K) (d := .bool false) ev_b l3.h fun v B' H' l4 hv => k v B' H' (((l.trans l2).trans l3).trans l4) ?_
    have : isCommandD (.tuple [wd, a, b]) = false := by
      have : isWord wd = false := by
        cases wd with
        | str x => simpa [isN, isNS, tyN] using h2
        | _ => rfl
      simp only [isCommandD, this, Bool.false_and]
    show Dq K B' v (.bool (isCommandD (.tuple [wd, a, b])))
    rw [this]
    exact hv
  intro h2 B3 H3 l3
  have hw : isWord wd = true := by
    simp only [Bool.or_eq_false_iff, Bool.not_eq_false'] at h2
    exact h2.2
  refine s_ret (K := K) (d := .bool (isCommandD (.tuple [wd, a, b]))) ?_ l3.h (fun v B' H' l4 hv => ?_)
  case refine_2 => exact k v B' H' (((l.trans l2).trans l3).trans l4) hv
  have e1 : isCommandD (.tuple [wd, a, b]) = (isItemD a && (isItemD b && !decide (itemI a = itemI b))) := by simp only [isCommandD, hw, Bool.true_and]
  rw [e1]
  refine ev_andV (ev_call1 (Ev.up l3 (ev_var rfl hy)) trivial) fun h4 => ev_andV (ev_call1 (Ev.up l3 (ev_var rfl hz)) trivial) fun h5 => ?_
  obtain ⟨i, rfl, _⟩ := item_int h4
  obtain ⟨j, rfl, _⟩ := item_int h5
  exact ev_op (Ev.up l3 (ev_var rfl hy)) (Ev.up l3 (ev_var rfl hz)) rv_neI
theorem ok_is_script (D : Df K mg "is_script" s_is_script ["value"]) (C_is_command : Cl P w K mg base CX0 3 "is_command" ["value"] (Pf1 K (fun _ => True) fun d => .bool (isCommandD d)))
    (z_isinstance : mg "isinstance" = none) (z_tuple : mg "tuple" = none) (z_len : mg "len" = none) (z_all : mg "all" = none) {t200 : Tok} (g_MOST_COMMANDS : mg "MOST_COMMANDS" = some (.int 200 t200)) :
    Cl P w K mg base CX0 4 "is_script" ["value"] (Pf1 K (fun _ => True) fun d => .bool (isScriptD d)) := by
  refine Cl.pu1 D sc_is_script fun f cdv A outer s H v Q E B d hr e hv hp k => ?_
  have hu := hr.units0
  refine ⟨_, (pss_cons (ps_if ((pw_or (pt_not (pt_val (pe_callB call_isi (by rfl) z_isinstance (by decide +kernel) (pa_cons (pv 0) (pa_cons (pe_bltn (v := .ty "tuple") (by rfl) z_tuple (by decide +kernel) rfl) pa_nil))))) (pw_or1 (pt_not (pt_chain op_le op_le pe_int (pe_callB call_len_seq (by rfl) z_len PySem.boot_len (pa_cons (pv 0) pa_nil)) (pe_glob (v := .int (200)) (by rfl) g_MOST_COMMANDS ⟨_, rfl⟩)))))).pt (pss_one (ps_ret pe_bl)) pss_nil) (pss_one (ps_ret (pe_callB (cr_all rfl) (by rfl) z_all (by decide +kernel) (pa_cons (pe_lc (own := [("command", 1)]) (tt := tYes) (te := (tCall _ [] E0 (tCons (tVar 1) tNil))) rfl sc_is_script.nd (pi_tup (pv 0)) (blkOk_by (N := N_is_script) (sc := defScope s_is_script) (by decide +kernel)) (fun _ _ _ _ _ => (pg_name (i := 1) sc_is_script.nd rfl (.inl rfl))) (fun _ _ _ _ _ => pts_nil) (fun _ _ _ _ _ => (pe_callC C_is_command (hr.mono (by decide)) (by rfl) pass0 (pa_cons (pv 1) pa_nil)))) pa_nil))))), ?_⟩
  have x0 : Ev K (tVar 0) (start N_is_script [v]) B H d := ev_var rfl hv
  refine q_when (k := !isN "tuple" d || !(decide ((1 : Int) ≤ (tlen d : Int)) && decide ((tlen d : Int) ≤ 200))) ?_ e ?_ ?_
  · refine et_or (et_not (et_B (ev_isi x0 (by decide)))) fun h1 => et_not ?_
    obtain ⟨ds, rfl⟩ := isT (by simpa using h1)
    exact et_chain ev_i (ev_cb (ea_cons x0 ea_nil) rc_lenT) (fun _ => ev_i) (rv_cmp (g := fun a b => decide (a ≤ b))) fun _ => rv_cmp (g := fun a b => decide (a ≤ b))
  · intro h1 B1 H1 l
    refine s_ret (K := K) (d := .bool false) ev_b l.h fun v B' H' l2 hv => k v B' H' (l.trans l2) ?_
    have : isScriptD d = false := by
      cases z : isScriptD d with
      | false => rfl
      | true =>
        exfalso
        cases d with
        | tuple ds =>
          simp only [isScriptD, Bool.and_eq_true, decide_eq_true_eq] at z
          have a1 : decide ((1 : Int) ≤ (tlen (.tuple ds) : Int)) = true := decide_eq_true (by show (1 : Int) ≤ (ds.length : Int); omega)
          have a2 : decide ((tlen (.tuple ds) : Int) ≤ 200) = true := decide_eq_true (by show (ds.length : Int) ≤ 200; omega)
          rw [a1, a2] at h1
          simp [isN, isNS, tyN] at h1
        | _ => simp [isScriptD] at z
    show Dq K B' v (.bool (isScriptD d))
    rw [this]
    exact hv
  · intro h1 B1 H1 l
    simp only [Bool.or_eq_false_iff, Bool.not_eq_false', Bool.and_eq_true, decide_eq_true_eq] at h1
    obtain ⟨ds, rfl⟩ := isT h1.1
    have h2 : (1 : Int) ≤ (ds.length : Int) := h1.2.1
    have h3 : (ds.length : Int) ≤ 200 := h1.2.2
    have y0 := x0.up l
    refine s_ret (K := K) (d := .bool (isScriptD (.tuple ds))) ?_ l.h (fun v B' H' l2 hv => ?_)
    case refine_2 => exact k v B' H' (l.trans l2) hv
    have e1 : isScriptD (.tuple ds) = ds.all isCommandD := by
      have a1 : decide (1 ≤ ds.length) = true := decide_eq_true (by omega)
      have a2 : decide (ds.length ≤ 200) = true := decide_eq_true (by omega)
      simp only [isScriptD, a1, a2, Bool.true_and]
    rw [e1]
    have c := ev_compT (te := tCall (Pf1 K (fun _ => True) fun d => .bool (isCommandD d)) [] E0 (tCons (tVar 1) tNil)) (tt := tYes) (j := 1) (vs := [1]) (fun _ => true) (fun d => .bool (isCommandD d)) y0 (by omega)
      (fun d v B1 H1 l hd hv => et_yes) (fun d v B1 H1 l hd hv _ => ev_call1 (ev_var rfl hv) trivial)
    rw [filter_true] at c
    exact ev_cb (ea_cons c ea_nil) (rc_allD isCommandD)
theorem ok_require_script (D : Df K mg "require_script" s_require_script ["value"]) (C_is_script : Cl P w K mg base CX0 4 "is_script" ["value"] (Pf1 K (fun _ => True) fun d => .bool (isScriptD d))) :
    Cl P w K mg base CX0 5 "require_script" ["value"] (Pf1 K (fun d => isScriptD d = true) fun _ => .none) := by
  refine Cl.pu1 D sc_require_script fun f cdv A outer s H v Q E B d hr e hv hp k => ?_
  have hu := hr.units0
  refine ⟨_, (pss_one (ps_if (pt_not (pt_val (pe_callC C_is_script (hr.mono (by decide)) (by rfl) pass0 (pa_cons (pv 0) pa_nil)))) (pss_one (ps_never)) pss_nil)), ?_⟩
  refine s_when (k := !isScriptD d) (et_not (et_B (ev_call1 (ev_var rfl hv) trivial))) e (fun h => ?_) fun h B1 H1 l => k .non B1 H1 l .non
  rw [hp] at h
  cases h
/-- pure, one argument, the answer a new object -/
abbrev Pn1 (K : PySem.W.Frag) (Pre : PyData → Prop) (g : PyData → PyData) : Sp := fun vs H Q _ => ∃ B v d, Ex B H ∧ vs = [v] ∧ Dq K B v d ∧ Pre d ∧ ∀ v' B' H', Le [] B H B' H' → (∃ a, v' = .ref a ∧ H a = none) → Dq K B' v' (g d) → Q v' H'
theorem pn_len {K : PySem.W.Frag} {Pre : PyData → Prop} {g : PyData → PyData} {a : PySem.Str} (vs : List V) (H : Hp) (Q : VK) (E : XK) (h : Pn1 K Pre g vs H Q E) : vs.length = [a].length := by
  obtain ⟨_, _, _, _, rfl, _⟩ := h
  rfl
theorem evN_call1 {K : PySem.W.Frag} {σ : L2.St} {B H : Hp} {te : TE} {Pre : PyData → Prop} {g : PyData → PyData} {E : XK} {d : PyData} (h : Ev K te σ B H d) (hp : Pre d) : EvN K (tCall (Pn1 K Pre g) [] E (tCons te tNil)) σ B H (g d) := fun B1 H1 l Q q =>
  h B1 H1 l _ fun v B2 H2 l2 hv => ⟨B2, v, d, l2.h, rfl, hv, hp, fun v' B' H' l3 hn hv' => by
    obtain ⟨a, ea, ha⟩ := hn
    exact q v' B' H' (l2.trans l3) ⟨a, ea, l2.back ha⟩ hv'⟩
/-- the two items of a command -/
def itemsD : PyData → List Int
  | .tuple [_, a, b] => [itemI a, itemI b]
  | _ => []
theorem command_of {d : PyData} (h : isCommandD d = true) : ∃ (x : PySem.Str) (i j : Int), d = .tuple [.str x, .int i, .int j] ∧ (x = "behind" ∨ x = "before") ∧ 0 ≤ i ∧ i < 60 ∧ 0 ≤ j ∧ j < 60 ∧ i ≠ j := by
  unfold isCommandD at h
  split at h
  · rename_i wd ea eb
    simp only [Bool.and_eq_true] at h
    obtain ⟨h1, h2, h3, h4⟩ := h
    obtain ⟨i, rfl, i1, i2⟩ := item_int h2
    obtain ⟨j, rfl, j1, j2⟩ := item_int h3
    cases wd with
    | str x =>
      simp only [isWord, Bool.or_eq_true, decide_eq_true_eq] at h1
      exact ⟨x, i, j, rfl, h1, i1, i2, j1, j2, by intro e; subst e; simp [itemI] at h4⟩
    | _ => simp [isWord] at h1
  · cases h
/-- the named items, ascending -/
def namedI (ds : List PyData) : List Int := below fun k => ds.any fun d => decide (k ∈ itemsD d)
def tupD : PyData → List PyData
  | .tuple ds => ds
  | _ => []
theorem script_of {d : PyData} (h : isScriptD d = true) : ∃ ds, d = .tuple ds ∧ 1 ≤ ds.length ∧ ds.length ≤ 200 ∧ ∀ c ∈ ds, isCommandD c = true := by
  cases d with
  | tuple ds =>
    simp only [isScriptD, Bool.and_eq_true, decide_eq_true_eq] at h
    exact ⟨ds, rfl, h.1.1, h.1.2, fun c hc => List.all_eq_true.mp h.2 c hc⟩
  | _ => simp [isScriptD] at h
theorem cut_from1 {a b c : PyData} : cutG [a, b, c] (some 1) none = [b, c] := by rfl
theorem ok_named_items (D : Df K mg "named_items" s_named_items ["script"]) (z_sorted : mg "sorted" = none) :
    Cl P w K mg base CX0 1 "named_items" ["script"] (Pn1 K (fun d => isScriptD d = true) fun d => .list ((namedI (tupD d)).map PyData.int)) :=
  Cl.of D sc_named_items pn_len fun f cdv A outer s H vs Q E hr h => by
  obtain ⟨B, v, d, e, rfl, hv, hp, k⟩ := h
  have hu := hr.units0
  refine ⟨_, (pss_one (ps_ret (pe_callB (cr_sortedSet rfl) (by rfl) z_sorted (by decide +kernel) (pa_cons (pe_sc2 (own := [("command", 1), ("item", 2)]) (vs1 := [2]) (wi1 := (iTup K (tSl (rSlAny K) (tVar 1) (tPart (tC (.int 1))) tNoPart))) (te := (tVar 2)) rfl sc_named_items.nd (pi_tup (pv 0)) (blkOk_by (N := N_named_items) (sc := defScope s_named_items) (by decide +kernel)) (by decide) (fun _ _ _ _ _ => (pg_name (i := 1) sc_named_items.nd rfl (.inl rfl))) (fun _ _ _ _ _ => (pi_tup (pe_slice sl_any (pv 1) (po_some pe_int) po_none))) (fun _ _ _ _ _ => (pg_name (i := 2) sc_named_items.nd rfl (.inl rfl))) (fun _ _ _ _ _ => (pv 2))) pa_nil)))), ?_⟩
  obtain ⟨ds, rfl, h1, h2, h3⟩ := script_of hp
  refine evN_sortedSet itemsD (ev_var rfl hv) (fun c hc i hi => ?_) (fun c v B1 H1 l hc hv => ?_) (fun _ => rfl) (fun _ _ => rfl) (fun _ _ => rfl) B H (Le.refl e) _ fun v B' H' l2 hn hv => k v B' H' l2 hn hv
  · obtain ⟨x, i1, j1, rfl, _, a1, a2, b1, b2, _⟩ := command_of (h3 c hc)
    simp only [itemsD, itemI, List.mem_cons, List.mem_nil_iff, or_false] at hi
    rcases hi with rfl | rfl <;> omega
  · obtain ⟨x, i1, j1, rfl, _⟩ := command_of (h3 c hc)
    exact ev_sl (ev_var rfl hv) (eo_some (K := K) ev_i) eo_none rs_T
end
end K34

set_option maxRecDepth 100000
set_option maxHeartbeats 2000000
namespace MA
open PySem PySem.Spec PyProof.Rows L2
section
variable {K : PySem.W.Frag} {σ : L2.St} {B H : Hp} {tl te : TE} {tt : TT}
/-- [.. for i, x in enumerate(t) if ..] -/
theorem ev_lcEnT {xs : List PyData} {i1 i2 : Nat} {vs : List Nat} (f : Nat → Bool) (g : Nat → PyData) (h : Ev K tl σ B H (.tuple xs)) (hz : xs.length ≤ 100000)
    (ht : ∀ (i : Nat) (d : PyData) (v : V) B1 H1, Le [] B H B1 H1 → xs[i]? = some d → Dq K B1 v d → EvT tt (((wipe σ vs).set i1 (some (.int (i : Nat)))).set i2 (some v)) B1 H1 (f i))
    (he : ∀ (i : Nat) (d : PyData) (v : V) B1 H1, Le [] B H B1 H1 → xs[i]? = some d → Dq K B1 v d → f i = true → Ev K te (((wipe σ vs).set i1 (some (.int (i : Nat)))).set i2 (some v)) B1 H1 (g i))
    (hw : ∀ x y, wipe (((wipe σ vs).set i1 (some x)).set i2 (some y)) vs = wipe σ vs := by intro _ _; rfl) :
    Ev K (tLc (iEnT K (tCons tl tNil)) (gTup K 2 (gCons (gName i1) (gCons (gName i2) gNil))) tt te vs) σ B H (.list (picked f g xs.length)) := fun B0 H0 l0 Q q => by
  refine h B0 H0 l0 _ fun u B1 H1 l1 hu => ?_
  cases hu with
  | tup hs hq =>
    rename_i a ys
    refine ⟨a, ys, rfl, Evl.ex_t l1.h hs, fun D hD => ?_⟩
    have hlen := hq.length
    refine lc_it (walk_enT (xs := ys)) (Lw K B1 H1 D f g) ⟨B1, [], Le.made l1.h hD, ?_, upd_same, .nil⟩ (fun i Hi _ p => ?_) (fun i x Hi Hi' hi p y => ?_) (fun Hi p => ?_)
    · cases z : B1 D with
      | none => rfl
      | some o => rw [l1.h D o z] at hD; cases hD
    · obtain ⟨Bi, acc, l, _⟩ := p
      exact Evl.ex_t (l.b.trans l.h) hs
    · obtain ⟨T, x1, x2, rfl, hT, rfl, e1, e2⟩ := y
      cases Option.some.inj e1
      obtain ⟨Bi, acc, l, hb, hh, hq2⟩ := p
      have ln := Le.new (M := []) (o := .tup [.int (i : Nat), x2]) l.h hT
      refine ⟨T, [.int (i : Nat), x2], rfl, .inl (.inl upd_same), rfl, .int (i : Nat), [x2], rfl, x2, [], rfl, rfl, ?_⟩
      obtain ⟨d, hd, hx⟩ := hq.get e2
      have p' : Lw K B1 H1 D f g i (upd Hi T (.tup [.int (i : Nat), x2])) := ⟨_, acc, l.trans ln, ln.own hh hb, ln.k D _ (by simp) hh, hq2.mono ln.b⟩
      exact ⟨hw _ _, Lw.turn hD p' (by omega) (fun Bi l => ht i d x2 Bi _ (l0.trans (l1.trans l)) hd (hx.mono l.b)) (fun Bi Hj l hf => he i d x2 Bi Hj (l0.trans (l1.trans l)) hd (hx.mono l.b) hf)⟩
    · obtain ⟨Bi, acc, l, hb, hh, hq2⟩ := p
      rw [hlen] at hq2
      have lg := l.give hD hb hh
      exact q (.ref D) _ Hi (l1.trans lg) (.lst upd_same (hq2.mono (Evl.Ex.new hb)))
/-- for x in t, pure -/
theorem q_forT {xs : List PyData} {g : TG} {tb tz : TS} {D : Ends} (hl : Ev K tl σ B H (.tuple xs)) (e : Ex B H) (I : Nat → L2.St → Hp → Prop) (h0 : ∀ B1 H1, Le [] B H B1 H1 → I 0 σ B1)
    (hs : ∀ (i : Nat) (d : PyData) (v : V) σ' B' H' N, Le [] B H B' H' → xs[i]? = some d → Dq K B' v d → I i σ' B' → (∀ σ3 B3 H3, Le [] B' H' B3 H3 → I (i + 1) σ3 B3 → N σ3 H3) →
      g v σ' H' fun σ2 H2 => tb { D with nx := N, ct := N, bk := tz D } σ2 H2)
    (hd : ∀ σ' B' H', Le [] B H B' H' → I xs.length σ' B' → tz D σ' H') : tSeq (tFor (iTup K tl) g tb) tz D σ H := by
  refine hl B H (Le.refl e) _ fun u B1 H1 l1 hu => ?_
  cases hu with
  | tup hv hq =>
    rename_i a ys
    refine ⟨a, rfl, ⟨ys, Evl.ex_t l1.h hv⟩, for_tup (xs := ys) (fun i σ' H' => ∃ B', Le [] B1 H1 B' H' ∧ I i σ' B') ⟨B1, Le.refl l1.h, h0 B1 H1 l1⟩ (fun i σ' H' _ p => ?_) (fun i x σ' H' hi p => ?_) (fun σ' H' p => ?_)⟩
    · obtain ⟨B', l, _⟩ := p
      exact Evl.ex_t (l.b.trans l.h) hv
    · obtain ⟨B', l, hI⟩ := p
      obtain ⟨d, hd, hx⟩ := hq.get hi
      exact hs i d x σ' B' H' _ (l1.trans l) hd (hx.mono l.b) hI fun σ3 B3 H3 l3 hI3 => ⟨B3, l.trans l3, hI3⟩
    · obtain ⟨B', l, hI⟩ := p
      rw [hq.length] at hI
      exact hd σ' B' H' (l1.trans l) hI
end
theorem asc_of_sorted : ∀ {xs : List Int}, xs.Pairwise (· ≤ ·) → xs.Nodup → xs.Pairwise (· < ·)
  | [], _, _ => .nil
  | x :: xs, h1, h2 => by
    rw [List.pairwise_cons] at h1
    rw [List.nodup_cons] at h2
    rw [List.pairwise_cons]
    exact ⟨fun a m => by have := h1.1 a m; have : a ≠ x := fun z => h2.1 (z ▸ m); omega, asc_of_sorted h1.2 h2.2⟩
theorem rc_sorted {K : PySem.W.Frag} {ns ys : List Int} (h1 : ns.Nodup) (h2 : ys.Pairwise (· < ·)) (h3 : ∀ k, k ∈ ns ↔ k ∈ ys) : RC K (rSortedI K) [.list (ns.map PyData.int)] (.list (ys.map PyData.int)) := fun B H vs e hvs Q q => by
  obtain ⟨v, rfl, hv⟩ := dq1 hvs
  cases hv with
  | lst h hq =>
    rename_i a xs
    cases ofInts hq
    refine ⟨a, ns, rfl, .inl (.inl (e _ _ h)), fun ns' p hp hs hn => ?_⟩
    have hn' : ns'.Nodup := hp.symm.nodup h1
    have : ns' = ys := asc_eq (asc_of_sorted hs hn') h2 fun k => by rw [hp.mem_iff, h3 k]
    subst this
    exact q (.ref p) _ _ (Le.new (M := []) e hn) (.lst upd_same (dqInts _))
/-! a list of ints in which each stands at its first place -/
theorem nodup_iff : ∀ (ns : List Int), (∀ i k, ns[i]? = some k → k ∉ ns.take i) ↔ ns.Nodup := by
  intro ns
  constructor
  · intro h
    rw [List.nodup_iff_pairwise_ne, List.pairwise_iff_getElem]
    intro i j hi hj hij e
    refine h j ns[j] (List.getElem?_eq_getElem hj) ?_
    rw [← e]
    exact List.mem_take_iff_getElem.mpr ⟨i, by omega, rfl⟩
  · intro h i k hi hm
    rw [List.nodup_iff_pairwise_ne, List.pairwise_iff_getElem] at h
    obtain ⟨j, hj, e⟩ := List.mem_take_iff_getElem.mp hm
    have hlt : i < ns.length := (List.getElem?_eq_some_iff.mp hi).1
    refine h j i (by omega) hlt (by omega) ?_
    rw [e]
    exact (List.getElem?_eq_some_iff.mp hi).2.symm
theorem picked_nil {f : Nat → Bool} {g : Nat → PyData} {n : Nat} : (picked f g n).isEmpty = true ↔ ∀ i < n, f i = false := by
  unfold picked
  rw [List.isEmpty_iff, List.map_eq_nil_iff, List.filter_eq_nil_iff]
  constructor
  · intro h i hi
    simpa using h i (List.mem_range.mpr hi)
  · intro h i hi
    rw [h i (List.mem_range.mp hi)]
    decide
theorem filter_allD {ds : List PyData} (p : PyData → Bool) : (ds.filter fun d => !p d).isEmpty = ds.all p := by
  induction ds with
  | nil => rfl
  | cons d r ih =>
    rw [List.filter_cons, List.all_cons]
    cases h : p d with
    | true => simpa using ih
    | false => rfl
theorem cut_to {α : Type} (xs : List α) (i : Nat) : cutG xs none (some (i : Int)) = xs.take i := by
  unfold cutG
  rw [HT.sIx_none, HT.sIx_nat, List.drop_zero, Nat.sub_zero]
  by_cases h : i ≤ xs.length
  · rw [Nat.min_eq_left h]
  · rw [Nat.min_eq_right (by omega), List.take_of_length_le (Nat.le_refl _), List.take_of_length_le (by omega)]
end MA

set_option maxRecDepth 100000
set_option maxHeartbeats 2000000
namespace MA
open PySem PySem.Spec PyProof.Rows L2

/-! ## a list of three ints that is read and changed on the way: the bag of a drawn case -/
structure Bag (g : Addr) (B H : Hp) : Prop where
  own : B g = none
  has : ∃ x y z : Int, H g = some (.lst [.int x, .int y, .int z])
theorem Le.local {M : List Addr} {p : Addr} {B H B' H' : Hp} (l : Le (p :: M) B H B' H') (hp : H p = none) : Le M B H B' H' :=
  ⟨l.b, l.h, fun a o ha e => l.k a o (fun m => by
    rcases List.mem_cons.mp m with z | m
    · rw [z, hp] at e; cases e
    · exact ha m) e, l.t, l.n⟩
section
variable {g : Addr} {B H B' H' : Hp}
theorem Bag.pure (b : Bag g B H) (l : Le [] B H B' H') : Bag g B' H' := by
  obtain ⟨x, y, z, h⟩ := b.has
  exact ⟨l.own h b.own, x, y, z, l.k g _ (by simp) h⟩
theorem Bag.ne (b : Bag g B H) {p : Addr} (hp : H p = none) : p ≠ g := fun z => by
  obtain ⟨x, y, w, h⟩ := b.has
  rw [z, h] at hp
  cases hp
end
section
variable (K : PySem.W.Frag) (g : Addr)
def Eb (te : TE) (σ : L2.St) (B H : Hp) (R : PyData → Prop) : Prop := ∀ B1 H1, Le [g] B H B1 H1 → Bag g B1 H1 → ∀ Q : VK, (∀ d v B2 H2, R d → Le [g] B1 H1 B2 H2 → Bag g B2 H2 → Dq K B2 v d → Q v H2) → te σ H1 Q
def EbA (ta : TA) (σ : L2.St) (B H : Hp) (R : List PyData → Prop) : Prop := ∀ B1 H1, Le [g] B H B1 H1 → Bag g B1 H1 → ∀ Q : List V → Hp → Prop, (∀ ds vs B2 H2, R ds → Le [g] B1 H1 B2 H2 → Bag g B2 H2 → DqAll K B2 vs ds → Q vs H2) → ta σ H1 Q
def EbT (t : TT) (σ : L2.St) (B H : Hp) (R : Bool → Prop) : Prop := ∀ B1 H1, Le [g] B H B1 H1 → Bag g B1 H1 → ∀ Q : Bool → Hp → Prop, (∀ k B2 H2, R k → Le [g] B1 H1 B2 H2 → Bag g B2 H2 → Q k H2) → t σ H1 Q
/-- a def that draws from the bag, its first argument -/
def Bg (Pre : List PyData → Prop) (Post : List PyData → PyData → Prop) : Sp := fun vs H Q _ => ∃ g us B ds, vs = .ref g :: us ∧ Ex B H ∧ Bag g B H ∧ DqAll K B us ds ∧ Pre ds ∧ ∀ d, Post ds d → ∀ v B' H', Le [g] B H B' H' → Bag g B' H' → Dq K B' v d → Q v H'
end
abbrev RI (P : Int → Prop) : PyData → Prop := fun d => ∃ i : Int, d = .int i ∧ P i
section
variable {K : PySem.W.Frag} {g : Addr} {σ : L2.St} {B H : Hp} {ta tb te : TE} {t u : TT} {d : PyData} {R R1 Rb : PyData → Prop}
theorem eb_of (h : ∀ B1 H1, Le [g] B H B1 H1 → Ev K te σ B1 H1 d) : Eb K g te σ B H (· = d) := fun B1 H1 l b Q q =>
  h B1 H1 l B1 H1 (Le.refl l.h) Q fun v B2 H2 l2 hv => q d v B2 H2 rfl l2.any (b.pure l2) hv
theorem eba_of {ts : TA} {ds : List PyData} (h : ∀ B1 H1, Le [g] B H B1 H1 → EvA K ts σ B1 H1 ds) : EbA K g ts σ B H (· = ds) := fun B1 H1 l b Q q =>
  h B1 H1 l B1 H1 (Le.refl l.h) Q fun v B2 H2 l2 hv => q ds v B2 H2 rfl l2.any (b.pure l2) hv
theorem ebt_of {k : Bool} (h : ∀ B1 H1, Le [g] B H B1 H1 → EvT t σ B1 H1 k) : EbT g t σ B H (· = k) := fun B1 H1 l b Q q =>
  h B1 H1 l B1 H1 (Le.refl l.h) Q fun B2 H2 l2 => q k B2 H2 rfl l2.any (b.pure l2)
theorem Eb.imp (h : Eb K g te σ B H R1) (hr : ∀ d, R1 d → R d) : Eb K g te σ B H R := fun B1 H1 l b Q q => h B1 H1 l b Q fun d v B2 H2 r => q d v B2 H2 (hr d r)
theorem Eb.up {B' H' : Hp} (l : Le [g] B H B' H') (h : Eb K g te σ B H R) : Eb K g te σ B' H' R := fun B1 H1 l1 b Q q => h B1 H1 (l.trans l1) b Q q
theorem eb_op {r : R2} (ha : Eb K g ta σ B H R1) (hb : Eb K g tb σ B H Rb) (hr : ∀ x y, R1 x → Rb y → ∃ z, RV K r x y z ∧ R z) : Eb K g (tOp r ta tb) σ B H R := fun B1 H1 l b Q q =>
  ha B1 H1 l b _ fun x v B2 H2 r1 l2 b2 hv => hb B2 H2 (l.trans l2) b2 _ fun y w B3 H3 r2 l3 b3 hw => by
    obtain ⟨z, rv, rz⟩ := hr x y r1 r2
    exact rv B3 H3 v w l3.h (hv.mono l3.b) hw Q fun o B4 H4 l4 ho => q z o B4 H4 rz ((l2.trans l3).trans l4.any) (b3.pure l4) ho
theorem eba_nil : EbA K g tNil σ B H (· = []) := fun B1 H1 l b Q q => q [] [] B1 H1 rfl (Le.refl l.h) b .nil
theorem eba_cons {tr : TA} {Rr : List PyData → Prop} (ha : Eb K g ta σ B H R1) (hr : EbA K g tr σ B H Rr) : EbA K g (tCons ta tr) σ B H (fun ds => ∃ d r, ds = d :: r ∧ R1 d ∧ Rr r) := fun B1 H1 l b Q q =>
  ha B1 H1 l b _ fun x v B2 H2 r1 l2 b2 hv => hr B2 H2 (l.trans l2) b2 _ fun ys vs B3 H3 r2 l3 b3 hs => q (x :: ys) (v :: vs) B3 H3 ⟨x, ys, rfl, r1, r2⟩ (l2.trans l3) b3 (.cons (hv.mono l3.b) hs)
theorem eb_lst {ts : TA} {Rr : List PyData → Prop} (h : EbA K g ts σ B H Rr) (hz : ∀ ds, Rr ds → ds.length ≤ sizeLine) : Eb K g (tLst ts) σ B H (fun d => ∃ ds, d = .list ds ∧ Rr ds) := fun B1 H1 l b Q q =>
  h B1 H1 l b _ fun ds vs B2 H2 r l2 b2 hs => ⟨by rw [hs.length]; exact hz ds r, fun p hp => q (.list ds) (.ref p) _ _ ⟨ds, rfl, r⟩ (l2.trans (Le.new l2.h hp)) (b2.pure (Le.new l2.h hp)) (.lst upd_same (hs.mono (Le.new (M := []) l2.h hp).b))⟩
theorem eb_tup {ts : TA} {Rr : List PyData → Prop} (h : EbA K g ts σ B H Rr) (hz : ∀ ds, Rr ds → ds.length ≤ sizeLine) : Eb K g (tTup ts) σ B H (fun d => ∃ ds, d = .tuple ds ∧ Rr ds) := fun B1 H1 l b Q q =>
  h B1 H1 l b _ fun ds vs B2 H2 r l2 b2 hs => ⟨by rw [hs.length]; exact hz ds r, fun p hp => q (.tuple ds) (.ref p) _ _ ⟨ds, rfl, r⟩ (l2.trans (Le.new l2.h hp)) (b2.pure (Le.new l2.h hp)) (.tup (.inl (.inl upd_same)) (hs.mono (Le.new (M := []) l2.h hp).b))⟩
theorem eb_call {Pre : List PyData → Prop} {Post : List PyData → PyData → Prop} {E : XK} {i : Nat} {ts : TA} {Rr : List PyData → Prop} (hb : σ[i]? = some (some (.ref g))) (h : EbA K g ts σ B H Rr) (hp : ∀ ds, Rr ds → Pre ds) :
    Eb K g (tCall (Bg K Pre Post) [] E (tCons (tVar i) ts)) σ B H (fun d => ∃ ds, Rr ds ∧ Post ds d) := fun B1 H1 l b Q q => by
  refine ⟨.ref g, hb, ?_⟩
  refine h B1 H1 l b _ fun ds vs B2 H2 r l2 b2 hs => ⟨g, vs, B2, ds, by rw [List.append_nil], l2.h, b2, hs, hp ds r, fun d pd v B3 H3 l3 b3 hv => ?_⟩
  exact q d v B3 H3 ⟨ds, r, pd⟩ (l2.trans l3) b3 hv
theorem eb_sl {rr : V → Option Int → Option Int → Hp → VK → Prop} {P : Int → Prop} (h : Eb K g ta σ B H R1) (h2 : Eb K g tb σ B H (RI P)) (hr : ∀ x i, R1 x → P i → ∃ z, RS K rr x none (some i) z ∧ R z) : Eb K g (tSl rr ta tNoPart (tPart tb)) σ B H R := fun B1 H1 l b Q q =>
  h B1 H1 l b _ fun x v B2 H2 r1 l2 b2 hv => h2 B2 H2 (l.trans l2) b2 _ fun y w B3 H3 r2 l3 b3 hw => by
    obtain ⟨i, rfl, hi⟩ := r2
    cases hw
    obtain ⟨z, rs, rz⟩ := hr x i r1 hi
    exact ⟨i, rfl, rs B3 H3 v l3.h (hv.mono l3.b) Q fun o B4 H4 l4 ho => q z o B4 H4 rz ((l2.trans l3).trans l4.any) (b3.pure l4) ho⟩
theorem ebt_test {P : Bool → Prop} (h : Eb K g te σ B H (fun d => ∃ k, d = .bool k ∧ P k)) : EbT g (tTest te) σ B H P := fun B1 H1 l b Q q => h B1 H1 l b _ fun d v B2 H2 r l2 b2 hv => by
  obtain ⟨k, rfl, p⟩ := r
  cases hv
  exact ⟨k, rfl, q k B2 H2 p l2 b2⟩
theorem ebt_and {P1 P2 P : Bool → Prop} (h1 : EbT g t σ B H P1) (h2 : P1 true → EbT g u σ B H P2) (hf : P1 false → P false) (ht : ∀ k, P2 k → P k) : EbT g (tAnd t u) σ B H P := fun B1 H1 l b Q q => h1 B1 H1 l b _ fun k B2 H2 p l2 b2 => by
  cases k with
  | true => exact h2 p B2 H2 (l.trans l2) b2 _ fun j B3 H3 pj l3 b3 => q j B3 H3 (ht j pj) (l2.trans l3) b3
  | false => exact q false B2 H2 (hf p) l2 b2
/-! statements -/
variable {D : Ends} {tu tw tz : TS}
theorem b_set {i : Nat} (h : Eb K g te σ B H R) (e : Ex B H) (b : Bag g B H) (q : ∀ d v B' H', R d → Le [g] B H B' H' → Bag g B' H' → Dq K B' v d → tz D (σ.set i (some v)) H') : tSeq (tAsg te (gName i)) tz D σ H := h B H (Le.refl e) b _ q
theorem b_ret (h : Eb K g te σ B H R) (e : Ex B H) (b : Bag g B H) (q : ∀ d v B' H', R d → Le [g] B H B' H' → Bag g B' H' → Dq K B' v d → D.rt v H') : tRet te D σ H := h B H (Le.refl e) b _ q
/-- a number below n, from the bag -/
abbrev PickS (K : PySem.W.Frag) : Sp := Bg K (fun ds => ∃ n : Int, ds = [.int n] ∧ 0 < n ∧ n < 1073741824) fun ds d => ∃ n r : Int, ds = [.int n] ∧ d = .int r ∧ 0 ≤ r ∧ r < n
theorem eb_pick {E : XK} {i : Nat} {P : Int → Prop} (hb : σ[i]? = some (some (.ref g))) (h : Eb K g te σ B H (RI P)) (hp : ∀ n, P n → 0 < n ∧ n < 1073741824) : Eb K g (tCall (PickS K) [] E (tCons (tVar i) (tCons te tNil))) σ B H (RI fun r => ∃ n, P n ∧ 0 ≤ r ∧ r < n) :=
  (eb_call hb (eba_cons h eba_nil) fun ds r => by
    obtain ⟨d, r, rfl, ⟨n, rfl, pn⟩, rfl⟩ := r
    exact ⟨n, rfl, hp n pn⟩).imp fun d h => by
      obtain ⟨ds, ⟨x, r, rfl, ⟨n, rfl, pn⟩, rfl⟩, m, r, e, rfl, h1, h2⟩ := h
      cases e
      exact ⟨r, rfl, n, pn, h1, h2⟩
theorem eb_pickC {E : XK} {i : Nat} {n : Int} (hb : σ[i]? = some (some (.ref g))) (h : ∀ B1 H1, Le [g] B H B1 H1 → Ev K te σ B1 H1 (.int n)) (h0 : 0 < n) (h1 : n < 1073741824) : Eb K g (tCall (PickS K) [] E (tCons (tVar i) (tCons te tNil))) σ B H (RI fun r => 0 ≤ r ∧ r < n) :=
  (eb_pick (P := (· = n)) hb ((eb_of h).imp fun d e => ⟨n, e, rfl⟩) fun m e => by subst e; exact ⟨h0, h1⟩).imp fun d h => by
    obtain ⟨r, rfl, m, rfl, h1, h2⟩ := h
    exact ⟨r, rfl, h1, h2⟩
theorem ei_of {i : Int} (h : ∀ B1 H1, Le [g] B H B1 H1 → Ev K te σ B1 H1 (.int i)) : Eb K g te σ B H (RI (· = i)) := (eb_of h).imp fun d e => ⟨i, e, rfl⟩
theorem ei_op {r : R2} {f : Int → Int → Int} {P1 P2 P : Int → Prop} (ha : Eb K g ta σ B H (RI P1)) (hb : Eb K g tb σ B H (RI P2)) (hr : ∀ i j, P1 i → P2 j → RV K r (.int i) (.int j) (.int (f i j)) ∧ P (f i j)) : Eb K g (tOp r ta tb) σ B H (RI P) :=
  eb_op ha hb fun x y h1 h2 => by
    obtain ⟨i, rfl, p1⟩ := h1
    obtain ⟨j, rfl, p2⟩ := h2
    exact ⟨_, (hr i j p1 p2).1, _, rfl, (hr i j p1 p2).2⟩
theorem bg_len {Pre : List PyData → Prop} {Post : List PyData → PyData → Prop} {n : Nat} (hn : ∀ ds, Pre ds → ds.length = n) (vs : List V) (H : Hp) (Q : VK) (E : XK) (h : Bg K Pre Post vs H Q E) : vs.length = n + 1 := by
  obtain ⟨g, us, B, ds, rfl, _, _, h1, h2, _⟩ := h
  rw [List.length_cons, h1.length, hn ds h2]
end
section
variable {K : PySem.W.Frag} {g p : Addr} {σ : L2.St} {B H : Hp}
theorem ix_own {xs : List V} {i : Int} {v : V} {Q : VK} (h : H p = some (.lst xs)) (hv : atI xs i = some v) (q : Q v H) : rIx K (.ref p) (.int i) H Q := .inl (by
  exact ⟨p, xs, i, v, rfl, rfl, .inl (.inl h), hv, q⟩)
theorem idx_nat {r : Int} {n : Nat} (h0 : 0 ≤ r) (h1 : r < n) : seqIndex? r n = some r.toNat := by
  have h := (ixN_seq (n := n) (i := r) (j := r.toNat) (by unfold ixN; rw [if_pos h0, if_pos (by omega)])).1
  exact h
theorem yes_i {F : Bool → Hp → Prop} (h : F true H) : tYes σ H F := h
theorem erase_mapM {α β : Type} (f : α → β) : ∀ (l : List α) (j : Nat), (l.map f).eraseIdx j = (l.eraseIdx j).map f
  | [], _ => rfl
  | _ :: _, 0 => rfl
  | a :: l, j + 1 => by rw [List.map_cons, List.eraseIdx_cons_succ, List.eraseIdx_cons_succ, List.map_cons, erase_mapM f l j]
theorem erase_permM {α : Type} : ∀ (l : List α) (i : Nat) (y : α), l[i]? = some y → (y :: l.eraseIdx i).Perm l
  | [], i, y, h => by simp at h
  | a :: l, 0, y, h => by
    simp at h
    subst h
    exact .refl _
  | a :: l, i + 1, y, h => by
    rw [List.eraseIdx_cons_succ]
    exact (List.Perm.swap a y _).trans ((erase_permM l i y (by simpa using h)).cons a)
/-- [left.pop(pick(bag, len(left))) for k in range(n)] -/
theorem b_pops {ta : TA} {j a b : Nat} {vs : List Nat} {xs : List Int} {n : Int} {Q : VK} (hta : EvA K ta σ B H [.int n]) (e : Ex B H) (hb : Bag g B H) (hp : B p = none) (hpl : H p = some (.lst (xs.map V.int))) (hpg : p ≠ g)
    (hw : ∀ x, wipe ((wipe σ vs).set j (some x)) vs = wipe σ vs) (ha : ∀ x, ((wipe σ vs).set j (some x))[a]? = some (some (.ref p))) (hbb : ∀ x, ((wipe σ vs).set j (some x))[b]? = some (some (.ref g)))
    (hn0 : 0 ≤ n) (hn : n ≤ xs.length) (hx : xs.length ≤ 1000)
    (q : ∀ (acc rest : List Int) (v : V) B' H', (acc ++ rest).Perm xs → (acc.length : Int) = n → Le [p, g] B H B' H' → Bag g B' H' → Dq K B' v (.list (acc.map PyData.int)) → Q v H') :
    tLc (iRng1 ta) (gName j) tYes (tBM K "list" rPopAt (tVar a) (tCons (tCall (PickS K) [] E0 (tCons (tVar b) (tCons (tCB (rLenA K) (tCons (tVar a) tNil)) tNil))) tNil)) vs σ H Q := by
  refine hta B H (Le.refl e) _ fun us B1 H1 l1 hus => ?_
  obtain ⟨u, rfl, hu⟩ := dq1 hus
  cases hu
  refine ⟨n, rfl, by omega, by omega, fun D hD => ?_⟩
  have hb1 := hb.pure l1
  have hp1 : B1 p = none := l1.own hpl hp
  have hpl1 := l1.k p _ (by simp) hpl
  have hDg := hb1.ne hD
  have hDp : D ≠ p := fun z => by rw [z, hpl1] at hD; cases hD
  have hDb : B1 D = none := by
    cases z : B1 D with
    | none => rfl
    | some o => rw [l1.h D o z] at hD; cases hD
  have hsl : 1000 < sizeLine := by rw [sizeLine_eq]; decide
  refine lc_range (lo := 0) (n := n.toNat) (fun i Hi => ∃ (Bi : Hp) (acc rest : List Int), Le [D, p, g] B1 H1 Bi Hi ∧ Bag g Bi Hi ∧ Bi p = none ∧ Hi p = some (.lst (rest.map V.int)) ∧ Bi D = none ∧ Hi D = some (.lst (acc.map V.int)) ∧ (acc ++ rest).Perm xs ∧ acc.length = i) ?_ ?_ ?_
  · obtain ⟨x, y, z, hg⟩ := hb1.has
    exact ⟨B1, [], xs, Le.made l1.h hD, ⟨hb1.own, x, y, z, by rw [upd_ne (Ne.symm hDg)]; exact hg⟩, hp1, by rw [upd_ne (Ne.symm hDp)]; exact hpl1, hDb, upd_same, .refl _, rfl⟩
  · rintro i Hi hi ⟨Bi, acc, rest, li, bi, pi, pl, di, dl, pm, ln⟩
    have hlen := pm.length_eq
    rw [List.length_append] at hlen
    have hr0 : 0 < rest.length := by omega
    refine ⟨hw _, ?_⟩
    refine yes_i ?_
    rw [if_pos rfl]
    refine ⟨.ref p, ha _, .inl ⟨rfl, _, .inl (.inl pl)⟩, ?_⟩
    refine ⟨.ref g, hbb _, .ref p, ha _, p, rest.map V.int, rfl, .inl (.inl (.inl pl)), ?_⟩
    rw [List.length_map]
    refine ⟨g, [.int rest.length], Bi, [.int rest.length], rfl, li.h, bi, .cons (.int _) .nil, ⟨rest.length, rfl, by omega, by omega⟩, ?_⟩
    rintro d ⟨m, r, em, rfl, r0, r1⟩ v B2 H2 l2 b2 hv
    cases em
    cases hv
    have pl2 := l2.k p _ (by simp [hpg]) pl
    have p2 := l2.own pl pi
    have dl2 := l2.k D _ (by simp [hDg]) dl
    have d2 := l2.own dl di
    have hk : r.toNat < rest.length := by omega
    refine ⟨p, rest.map V.int, r, r.toNat, .int rest[r.toNat], rfl, rfl, pl2, by omega, by omega, by rw [List.length_map]; exact idx_nat r0 r1, by rw [List.getElem?_map, List.getElem?_eq_getElem hk]; rfl, ?_⟩
    refine ⟨acc.map V.int, by rw [upd_ne hDp]; exact dl2, by rw [List.length_map]; omega, B2, acc ++ [rest[r.toNat]], rest.eraseIdx r.toNat, ?_, ?_, p2, ?_, d2, ?_, ?_, by rw [List.length_append, ln]; rfl⟩
    · have q1 : Le [D, p, g] B2 H2 B2 (upd H2 p (.lst ((rest.map V.int).eraseIdx r.toNat))) := Le.put l2.h p2 (by simp)
      have q2 : Le [D, p, g] B2 (upd H2 p (.lst ((rest.map V.int).eraseIdx r.toNat))) B2 (upd (upd H2 p (.lst ((rest.map V.int).eraseIdx r.toNat))) D (.lst (acc.map V.int ++ [.int rest[r.toNat]]))) := Le.put q1.h d2 (by simp)
      exact (li.trans (l2.wk (by simp))).trans (q1.trans q2)
    · obtain ⟨x, y, z, hg⟩ := b2.has
      exact ⟨b2.own, x, y, z, by rw [upd_ne (Ne.symm hDg), upd_ne (Ne.symm hpg)]; exact hg⟩
    · rw [upd_ne (Ne.symm hDp), upd_same, erase_mapM V.int]
    · rw [upd_same, List.map_append]; rfl
    · refine .trans ?_ pm
      rw [List.append_assoc]
      refine List.Perm.append_left acc ?_
      exact erase_permM rest r.toNat _ (List.getElem?_eq_getElem hk)
  · rintro Hi ⟨Bi, acc, rest, li, bi, pi, pl, di, dl, pm, ln⟩
    have lf : Le [p, g] B1 H1 Bi Hi := li.local hD
    have lg := lf.give hD di dl
    refine q acc rest (.ref D) _ Hi pm (by omega) (l1.any.trans lg) ⟨by rw [upd_ne (Ne.symm hDg)]; exact bi.own, bi.has⟩ (.lst upd_same (dqInts _))
end
/-- a new bag -/
def BagS : Sp := fun vs H Q _ => ∃ c : Int, vs = [.int c] ∧ ∀ (p : Addr) (x y z : Int), H p = none → Q (.ref p) (upd H p (.lst [.int x, .int y, .int z]))
/-- the items of a drawn line -/
abbrev ItemsS (K : PySem.W.Frag) : Sp := Bg K (fun ds => ∃ n : Int, ds = [.int n] ∧ 0 ≤ n ∧ n ≤ 60) fun ds d => ∃ (n : Int) (xs : List Int), ds = [.int n] ∧ d = .list (xs.map PyData.int) ∧ (xs.length : Int) = n ∧ xs.Nodup ∧ ∀ k ∈ xs, 0 ≤ k ∧ k < 60
theorem perm_part {acc rest xs : List Int} (h : (acc ++ rest).Perm xs) (hn : xs.Nodup) : acc.Nodup ∧ ∀ k ∈ acc, k ∈ xs :=
  ⟨(List.nodup_append.mp (h.symm.nodup hn)).1, fun k hk => h.mem_iff.mp (List.mem_append_left _ hk)⟩
def ints60 : List Int := (List.range 60).map fun (i : Nat) => (i : Int)
theorem ite_b {k : Bool} {F G : Prop} (h1 : k = true → F) (h2 : k = false → G) : if k = true then F else G := by
  cases k with
  | true => rw [if_pos rfl]; exact h1 rfl
  | false => rw [if_neg (by decide)]; exact h2 rfl
theorem rgV60 : rgV 0 60 = ints60.map V.int := by decide +kernel
theorem ints60_nd : ints60.Nodup := by decide +kernel
theorem ints60_in : ∀ k ∈ ints60, 0 ≤ k ∧ k < 60 := by decide +kernel
end MA

set_option maxRecDepth 100000
set_option maxHeartbeats 2000000
namespace MA
open PySem PySem.Spec PyProof.Rows L2
/-! ## drawn scripts -/
def GoodC (xs : List Int) (c : PyData) : Prop := ∃ (w : PySem.Str) (i j : Int), c = .tuple [.str w, .int i, .int j] ∧ (w = "behind" ∨ w = "before") ∧ i ∈ xs ∧ j ∈ xs ∧ i ≠ j
abbrev ScriptS (K : PySem.W.Frag) : Sp := Bg K (fun ds => ∃ (xs : List Int) (m : Int), ds = [.list (xs.map PyData.int), .int m] ∧ 2 ≤ xs.length ∧ xs.length ≤ 60 ∧ xs.Nodup ∧ 1 ≤ m ∧ m ≤ 1000)
  fun ds d => ∃ (xs : List Int) (m : Int) (cs : List PyData), ds = [.list (xs.map PyData.int), .int m] ∧ d = .tuple cs ∧ 1 ≤ cs.length ∧ (cs.length : Int) ≤ m ∧ ∀ c ∈ cs, GoodC xs c
abbrev CaseS (K : PySem.W.Frag) : Sp := Bg K (fun ds => ∃ (m l : Int), ds = [.int m, .int l] ∧ 2 ≤ m ∧ m ≤ 60 ∧ 1 ≤ l ∧ l ≤ 1000)
  fun ds d => ∃ (m l : Int) (xs : List Int) (cs : List PyData), ds = [.int m, .int l] ∧ d = .tuple [.tuple (xs.map PyData.int), .tuple cs] ∧ 2 ≤ xs.length ∧ (xs.length : Int) ≤ m ∧ xs.Nodup ∧ (∀ k ∈ xs, 0 ≤ k ∧ k < 60) ∧ 1 ≤ cs.length ∧ (cs.length : Int) ≤ l ∧ ∀ c ∈ cs, GoodC xs c
/-- some of the items -/
structure SomeL (xs ss : List Int) : Prop where
  two : 2 ≤ ss.length
  small : ss.length ≤ 60
  nd : ss.Nodup
  sub : ∀ k ∈ ss, k ∈ xs
theorem SomeL.take {xs ss : List Int} (h : SomeL xs ss) {i : Int} (hi : 2 ≤ i) : SomeL xs (ss.take i.toNat) :=
  ⟨by rw [List.length_take]; have := h.two; omega, by rw [List.length_take]; have := h.small; omega, h.nd.sublist (List.take_sublist _ _), fun k hk => h.sub k (List.mem_of_mem_take hk)⟩
theorem cut_ints (ss : List Int) {i : Int} (hi : 0 ≤ i) : cutG (ss.map PyData.int) none (some i) = (ss.take i.toNat).map PyData.int := by
  have := cut_to (ss.map PyData.int) i.toNat
  rw [show ((i.toNat : Nat) : Int) = i by omega] at this
  rw [this, List.map_take]
theorem nd_get {ss : List Int} (h : ss.Nodup) {i j : Nat} {a b : Int} (hi : ss[i]? = some a) (hj : ss[j]? = some b) (hne : i ≠ j) : a ≠ b := fun e => by
  subst e
  obtain ⟨h1, e1⟩ := List.getElem?_eq_some_iff.mp hi
  obtain ⟨h2, e2⟩ := List.getElem?_eq_some_iff.mp hj
  rw [List.nodup_iff_pairwise_ne, List.pairwise_iff_getElem] at h
  rcases Nat.lt_or_gt_of_ne hne with z | z
  · exact h i j h1 h2 z (by rw [e1, e2])
  · exact h j i h2 h1 z (by rw [e1, e2])
theorem round_ne {a r n : Int} (h0 : 0 ≤ a) (h1 : a < n) (h2 : 0 ≤ r) (h3 : r < n - 1) : (a + 1 + r) % n ≠ a := by
  by_cases z : a + 1 + r < n
  · rw [Int.emod_eq_of_lt (by omega) z]; omega
  · have h := Int.add_mul_emod_self_left (a + 1 + r - n) n 1
    rw [Int.mul_one, show a + 1 + r - n + n = a + 1 + r by omega] at h
    have h4 : (a + 1 + r - n) % n = a + 1 + r - n := Int.emod_eq_of_lt (by omega) (by omega)
    rw [h, h4]
    omega
theorem next_ne {k n : Int} (h0 : 0 ≤ k) (h1 : 2 ≤ n) : k % n ≠ (k + 1) % n := by
  have e : (k + 1) % n = (k % n + 1 + 0) % n := by rw [Int.add_zero, Int.emod_add_emod]
  rw [e]
  exact (round_ne (Int.emod_nonneg _ (by omega)) (Int.emod_lt_of_pos _ (by omega)) (by omega) (by omega)).symm
def rInt1 : List V → Hp → VK → Prop := fun xs H Q => (∃ i, xs = [.int i] ∧ Q (.int i) H) ∨ ∃ k, xs = [.bl k] ∧ Q (.int (if k then 1 else 0)) H
section
variable {K : PySem.W.Frag} {g p : Addr} {σ : L2.St} {B H : Hp} {ta tb te : TE} {t u : TT} {d : PyData} {R R1 Rb : PyData → Prop} {D : Ends} {tu tw tz : TS}
theorem rc_int1 {k : Bool} : RC K rInt1 [.bool k] (.int (if k then 1 else 0)) := fun B H vs e hvs Q q => by
  obtain ⟨v, rfl, hv⟩ := dq1 hvs
  cases hv
  exact .inr ⟨k, rfl, q _ B H (Le.refl e) (.int _)⟩
/-- an if without else that keeps a word of the slots -/
theorem q_whenS {k : Bool} (I : L2.St → Hp → Prop) (h : EvT t σ B H k) (e : Ex B H) (h1 : k = true → ∀ B' H', Le [] B H B' H' → ∀ N : L2.St → Hp → Prop, (∀ σ' B2 H2, Le [] B' H' B2 H2 → I σ' B2 → N σ' H2) → tu { D with nx := N } σ H') (h2 : k = false → ∀ B' H', Le [] B H B' H' → I σ B')
    (hz : ∀ σ' B' H', Le [] B H B' H' → I σ' B' → tz D σ' H') : tSeq (tIfS t tu tNext) tz D σ H :=
  q_when h e (fun hk B' H' l => h1 hk B' H' l _ fun σ' B2 H2 l2 i => hz σ' B2 H2 (l.trans l2) i) fun hk B' H' l => hz σ B' H' l (h2 hk B' H' l)
theorem b_if {P : Bool → Prop} (h : EbT g t σ B H P) (e : Ex B H) (b : Bag g B H) (h1 : P true → ∀ B' H', Le [g] B H B' H' → Bag g B' H' → tu D σ H') (h2 : P false → ∀ B' H', Le [g] B H B' H' → Bag g B' H' → tw D σ H') : tIfS t tu tw D σ H := h B H (Le.refl e) b _ fun k B' H' pk l b' => by
  cases k with
  | true => exact h1 pk B' H' l b'
  | false => exact h2 pk B' H' l b'
/-- p.append(..), p a list of ours -/
theorem b_append {i : Nat} {vs : List V} (hi : σ[i]? = some (some (.ref p))) (h : Eb K g te σ B H R) (e : Ex B H) (b : Bag g B H) (hp : B p = none) (hpl : H p = some (.lst vs)) (hpg : p ≠ g) (hz : vs.length < 100000)
    (q : ∀ d v B' H', R d → Le [p, g] B H B' H' → Bag g B' H' → B' p = none → H' p = some (.lst (vs ++ [v])) → Dq K B' v d → D.nx σ H') : tDrop (tBM K "list" rAppend (tVar i) (tCons te tNil)) D σ H := by
  refine ⟨.ref p, hi, .inl ⟨rfl, vs, .inl (.inl hpl)⟩, ?_⟩
  refine h B H (Le.refl e) b _ fun d v B' H' r l b' hv => ?_
  have hp' := l.own hpl hp
  have hpl' := l.k p _ (by simp [hpg]) hpl
  have hsl : 100000 < sizeLine := by rw [sizeLine_eq]; decide
  refine ⟨p, vs, v, rfl, rfl, hpl', by omega, ?_⟩
  have l2 : Le [p, g] B' H' B' (upd H' p (.lst (vs ++ [v]))) := Le.put l.h hp' (by simp)
  obtain ⟨x, y, z, hg⟩ := b'.has
  exact q d v B' _ r ((l.wk (by simp)).trans l2) ⟨b'.own, x, y, z, by rw [upd_ne (Ne.symm hpg)]; exact hg⟩ hp' upd_same hv
/-- what is read of a list of ours -/
theorem ev_own {vs : List V} {cs : List PyData} (h : ∀ B1, B1 p = some (.lst vs) → Dq K B1 (.ref p) (.list cs) → Ex B1 H → (∀ a o, B a = some o → B1 a = some o) → Ev K te σ B1 H d) (hq : DqAll K B vs cs) (e : Ex B H) (hp : B p = none) (hpl : H p = some (.lst vs)) (sc : ∀ {H1 H2 : Hp} {v : V}, Dq K H1 v d → Dq K H2 v d) : Ev K te σ B H d :=
  Ev.own (h (upd B p (.lst vs)) upd_same (.lst upd_same (hq.mono (Evl.Ex.new hp))) (ex_give e hpl) (Evl.Ex.new hp)) hpl hp sc
theorem sc_int {i : Int} : ∀ {H1 H2 : Hp} {v : V}, Dq K H1 v (.int i) → Dq K H2 v (.int i) := fun h => by cases h; exact .int _
theorem sc_bool {i : Bool} : ∀ {H1 H2 : Hp} {v : V}, Dq K H1 v (.bool i) → Dq K H2 v (.bool i) := fun h => by cases h; exact .bl _
theorem q_asgR {i : Nat} (h : te σ H fun v H' => tz D (σ.set i (some v)) H') : tSeq (tAsg te (gName i)) tz D σ H := h
end
end MA

set_option maxRecDepth 100000
set_option maxHeartbeats 2000000
namespace MA
open PySem PySem.Spec PyProof.Rows L2

/-! ## small plain data: what repr needs -/
structure Sm (k w : Nat) (d : PyData) : Prop where
  sh : d.showable = true
  lf : d.leavesShort 30 = true
  wt : d.weight ≤ w
  dp : d.depth ≤ k
def Pl (k w : Nat) (d : PyData) : Prop := Sm k w d ∧ noList d = true ∧ d.hasDict = false
def Od (k w : Nat) (d : PyData) : Prop := Sm k w d ∧ (d.hasDict = false ∨ noList d = true)
theorem Sm.mono {k w k' w' : Nat} {d : PyData} (h : Sm k w d) (hk : k ≤ k') (hw : w ≤ w') : Sm k' w' d := ⟨h.sh, h.lf, Nat.le_trans h.wt hw, Nat.le_trans h.dp hk⟩
theorem Pl.mono {k w k' w' : Nat} {d : PyData} (h : Pl k w d) (hk : k ≤ k') (hw : w ≤ w') : Pl k' w' d := ⟨h.1.mono hk hw, h.2⟩
theorem Od.mono {k w k' w' : Nat} {d : PyData} (h : Od k w d) (hk : k ≤ k') (hw : w ≤ w') : Od k' w' d := ⟨h.1.mono hk hw, h.2⟩
theorem Pl.od {k w : Nat} {d : PyData} (h : Pl k w d) : Od k w d := ⟨h.1, .inl h.2.2⟩
section
variable {k w W : Nat}
theorem all_sh : ∀ {xs : List PyData}, (∀ x ∈ xs, x.showable = true) → PyData.showableAll xs = true
  | [], _ => by simp [PyData.showableAll]
  | x :: xs, h => by simp only [PyData.showableAll, h x (List.mem_cons_self ..), all_sh fun y hy => h y (List.mem_cons_of_mem _ hy), Bool.and_self]
theorem all_lf : ∀ {xs : List PyData}, (∀ x ∈ xs, x.leavesShort 30 = true) → PyData.leavesShortAll 30 xs = true
  | [], _ => by simp [PyData.leavesShortAll]
  | x :: xs, h => by simp only [PyData.leavesShortAll, h x (List.mem_cons_self ..), all_lf fun y hy => h y (List.mem_cons_of_mem _ hy), Bool.and_self]
theorem all_wt : ∀ {xs : List PyData}, (∀ x ∈ xs, x.weight ≤ w) → PyData.weightAll xs ≤ xs.length * (w + 1)
  | [], _ => by simp [PyData.weightAll]
  | x :: xs, h => by
    have h1 := h x (List.mem_cons_self ..)
    have h2 := all_wt fun y hy => h y (List.mem_cons_of_mem x hy)
    simp only [PyData.weightAll, List.length_cons, Nat.add_mul, Nat.one_mul]
    omega
theorem all_dp : ∀ {xs : List PyData}, (∀ x ∈ xs, x.depth ≤ k) → PyData.depthAll xs ≤ k
  | [], _ => by simp [PyData.depthAll]
  | x :: xs, h => by
    have h1 := h x (List.mem_cons_self ..)
    have h2 := all_dp fun y hy => h y (List.mem_cons_of_mem x hy)
    simp only [PyData.depthAll]
    omega
theorem all_nl : ∀ {xs : List PyData}, (∀ x ∈ xs, noList x = true) → noListAll xs = true
  | [], _ => by simp [noListAll]
  | x :: xs, h => by simp only [noListAll, h x (List.mem_cons_self ..), all_nl fun y hy => h y (List.mem_cons_of_mem _ hy), Bool.and_self]
theorem all_nd : ∀ {xs : List PyData}, (∀ x ∈ xs, x.hasDict = false) → PyData.hasDictAll xs = false
  | [], _ => by simp [PyData.hasDictAll]
  | x :: xs, h => by simp only [PyData.hasDictAll, h x (List.mem_cons_self ..), all_nd fun y hy => h y (List.mem_cons_of_mem _ hy), Bool.or_self]
theorem Sm.tup {xs : List PyData} (h : ∀ x ∈ xs, Sm k w x) (hW : xs.length * (w + 1) ≤ W) : Sm (k + 1) W (.tuple xs) :=
  ⟨by simpa only [PyData.showable] using all_sh fun x hx => (h x hx).sh, by simpa only [PyData.leavesShort] using all_lf fun x hx => (h x hx).lf,
    by simp only [PyData.weight]; exact Nat.le_trans (all_wt fun x hx => (h x hx).wt) hW, by simp only [PyData.depth]; exact Nat.succ_le_succ (all_dp fun x hx => (h x hx).dp)⟩
theorem Sm.lst {xs : List PyData} (h : ∀ x ∈ xs, Sm k w x) (hW : xs.length * (w + 1) ≤ W) : Sm (k + 1) W (.list xs) :=
  ⟨by simpa only [PyData.showable] using all_sh fun x hx => (h x hx).sh, by simpa only [PyData.leavesShort] using all_lf fun x hx => (h x hx).lf,
    by simp only [PyData.weight]; exact Nat.le_trans (all_wt fun x hx => (h x hx).wt) hW, by simp only [PyData.depth]; exact Nat.succ_le_succ (all_dp fun x hx => (h x hx).dp)⟩
theorem len_mul {n m : Nat} (h : n ≤ m) (hW : m * (w + 1) ≤ W) : n * (w + 1) ≤ W := Nat.le_trans (Nat.mul_le_mul_right _ h) hW
theorem Pl.tup {xs : List PyData} (h : ∀ x ∈ xs, Pl k w x) (hW : xs.length * (w + 1) ≤ W) : Pl (k + 1) W (.tuple xs) :=
  ⟨.tup (fun x hx => (h x hx).1) hW, by simp only [noList]; exact all_nl fun x hx => (h x hx).2.1, by simp only [PyData.hasDict]; exact all_nd fun x hx => (h x hx).2.2⟩
theorem Od.lst {xs : List PyData} (h : ∀ x ∈ xs, Pl k w x) (hW : xs.length * (w + 1) ≤ W) : Od (k + 1) W (.list xs) :=
  ⟨.lst (fun x hx => (h x hx).1) hW, .inl (by simp only [PyData.hasDict]; exact all_nd fun x hx => (h x hx).2.2)⟩
/-- one odd value among plain ones -/
theorem Od.tup {o : PyData} {xs : List PyData} (ho : Od k w o) (h : ∀ x ∈ xs, x = o ∨ Pl k w x) (hW : xs.length * (w + 1) ≤ W) : Od (k + 1) W (.tuple xs) := by
  have hs : ∀ x ∈ xs, Sm k w x := fun x hx => (h x hx).elim (fun e => e ▸ ho.1) fun p => p.1
  refine ⟨.tup hs hW, ?_⟩
  rcases ho.2 with z | z
  · exact .inl (by simp only [PyData.hasDict]; exact all_nd fun x hx => (h x hx).elim (fun e => e ▸ z) fun p => p.2.2)
  · exact .inr (by simp only [noList]; exact all_nl fun x hx => (h x hx).elim (fun e => e ▸ z) fun p => p.2.1)
end
/-! atoms -/
def plB (d : PyData) : Bool := d.showable && d.leavesShort 30 && decide (d.weight ≤ 70) && decide (d.depth ≤ 0) && noList d && !d.hasDict
theorem pl_of {d : PyData} (h : plB d = true) : Pl 0 70 d := by
  simp only [plB, Bool.and_eq_true, decide_eq_true_eq, Bool.not_eq_true'] at h
  exact ⟨⟨h.1.1.1.1.1, h.1.1.1.1.2, h.1.1.1.2, h.1.1.2⟩, h.1.2, h.2⟩
theorem pl_items : ∀ i ∈ ints60, plB (.int i) = true := by decide +kernel
theorem pl_int {i : Int} (h0 : 0 ≤ i) (h1 : i < 60) : Pl 0 70 (.int i) := by
  refine pl_of (pl_items i ?_)
  unfold ints60
  exact List.mem_map.mpr ⟨i.toNat, List.mem_range.mpr (by omega), by omega⟩
theorem pl_word {x : PySem.Str} (h : x = "behind" ∨ x = "before") : Pl 0 70 (.str x) := by
  rcases h with rfl | rfl <;> exact pl_of (by decide +kernel)
/-- what the law shows -/
def Ov (d : PyData) : Prop := Od 6 400000 d ∧ tlen d ≤ 1000
theorem Ov.repr {d : PyData} (h : Ov d) : d.showable = true ∧ (d.hasDict = false ∨ noList d = true) ∧ d.shown.length ≤ sizeLine ∧ d.depth ≤ 60 := by
  refine ⟨h.1.1.sh, h.1.2, ?_, Nat.le_trans h.1.1.dp (by decide)⟩
  have h1 := PyData.shown_le 30 (by decide) d h.1.1.lf
  have h2 := h.1.1.wt
  rw [sizeLine_eq]
  omega
/-! ## values of which something holds -/
section
variable (K : PySem.W.Frag)
def EvV (te : TE) (σ : L2.St) (B H : Hp) (P : PyData → Prop) : Prop := ∃ d, Ev K te σ B H d ∧ P d
def EaV (ta : TA) (σ : L2.St) (B H : Hp) (P : PyData → Prop) (n : Nat) : Prop := ∃ ds, EvA K ta σ B H ds ∧ (∀ d ∈ ds, P d) ∧ ds.length = n
def EvC (c : List PyData → PyData) (te : TE) (σ : L2.St) (B H : Hp) (P : PyData → Prop) (n : Nat) : Prop := ∃ ds, Ev K te σ B H (c ds) ∧ (∀ d ∈ ds, P d) ∧ ds.length ≤ n
end
section
variable {K : PySem.W.Frag} {σ : L2.St} {B H : Hp} {te ta tb : TE} {P : PyData → Prop} {n m : Nat}
theorem vv (h : Ev K te σ B H d) (hp : P d) : EvV K te σ B H P := ⟨d, h, hp⟩
theorem va_nil : EaV K tNil σ B H P 0 := ⟨[], ea_nil, by simp, rfl⟩
theorem va_cons {tr : TA} (h : EvV K te σ B H P) (hr : EaV K tr σ B H P n) : EaV K (tCons te tr) σ B H P (n + 1) := by
  obtain ⟨d, h1, h2⟩ := h
  obtain ⟨ds, h3, h4, h5⟩ := hr
  exact ⟨d :: ds, ea_cons h1 h3, fun x hx => (List.mem_cons.mp hx).elim (fun e => e ▸ h2) (h4 x), by rw [List.length_cons, h5]⟩
theorem vc_lst {ts : TA} (h : EaV K ts σ B H P n) (hz : n ≤ sizeLine) : EvC K .list (tLst ts) σ B H P n := by
  obtain ⟨ds, h1, h2, h3⟩ := h
  exact ⟨ds, ev_lst h1 (by omega), h2, by omega⟩
theorem vc_tup {ts : TA} (h : EaV K ts σ B H P n) (hz : n ≤ sizeLine) : EvC K .tuple (tTup ts) σ B H P n := by
  obtain ⟨ds, h1, h2, h3⟩ := h
  exact ⟨ds, ev_tup h1 (by omega), h2, by omega⟩
theorem vc_addL (h1 : EvC K .list ta σ B H P n) (h2 : EvC K .list tb σ B H P m) (hz : n + m ≤ sizeLine) : EvC K .list (tOp (rAddA K) ta tb) σ B H P (n + m) := by
  obtain ⟨as, a1, a2, a3⟩ := h1
  obtain ⟨bs, b1, b2, b3⟩ := h2
  exact ⟨as ++ bs, ev_op a1 b1 (rv_addL (by omega)), fun x hx => (List.mem_append.mp hx).elim (a2 x) (b2 x), by rw [List.length_append]; omega⟩
theorem vc_addT (h1 : EvC K .tuple ta σ B H P n) (h2 : EvC K .tuple tb σ B H P m) (hz : n + m ≤ sizeLine) : EvC K .tuple (tOp (rAddA K) ta tb) σ B H P (n + m) := by
  obtain ⟨as, a1, a2, a3⟩ := h1
  obtain ⟨bs, b1, b2, b3⟩ := h2
  exact ⟨as ++ bs, ev_op a1 b1 (rv_addT (by omega)), fun x hx => (List.mem_append.mp hx).elim (a2 x) (b2 x), by rw [List.length_append]; omega⟩
theorem mem_cut {α : Type} {xs : List α} {lo hi : Option Int} {x : α} (h : x ∈ cutG xs lo hi) : x ∈ xs := List.mem_of_mem_drop (List.mem_of_mem_take h)
theorem len_cut {α : Type} (xs : List α) (lo hi : Option Int) : (cutG xs lo hi).length ≤ xs.length := by
  unfold cutG
  rw [List.length_take, List.length_drop]
  omega
theorem vc_sl {tl th : TO} {lo hi : Option Int} (h : EvC K .tuple te σ B H P n) (h1 : EvO tl σ B H lo) (h2 : EvO th σ B H hi) : EvC K .tuple (tSl (rSlAny K) te tl th) σ B H P n := by
  obtain ⟨as, a1, a2, a3⟩ := h
  exact ⟨_, ev_sl a1 h1 h2 rs_T, fun x hx => a2 x (mem_cut hx), Nat.le_trans (len_cut _ _ _) a3⟩
theorem vc_back (h : EvC K .tuple te σ B H P n) : EvC K .tuple (tBack K te) σ B H P n := by
  obtain ⟨as, a1, a2, a3⟩ := h
  exact ⟨_, ev_back a1, fun x hx => a2 x (List.mem_reverse.mp hx), by rw [List.length_reverse]; exact a3⟩
theorem vc_mul {k : Int} {xs : List PyData} (a1 : Ev K te σ B H (.tuple xs)) (h0 : xs ≠ []) (a2 : ∀ x ∈ xs, P x) (h1 : xs.length ≤ 1) (h2 : 2 ≤ k) (h3 : k ≤ 1000) : EvC K .tuple (tOp (rMulA K) te (tC (.int k))) σ B H P k.toNat := by
  refine ⟨_, ev_op a1 ev_i (rv_mulT h0 h2 h3 (by omega)), fun x hx => ?_, ?_⟩
  · obtain ⟨l, hl, hx⟩ := List.mem_flatten.mp hx
    rw [List.eq_of_mem_replicate hl] at hx
    exact a2 x hx
  · rw [List.length_flatten, List.map_replicate, List.sum_replicate_nat]
    have := Nat.mul_le_mul_left k.toNat h1
    omega
theorem vc_lstT (h : EvC K .tuple te σ B H P n) : EvC K .list (tCB (rLstA K) (tCons te tNil)) σ B H P n := by
  obtain ⟨as, a1, a2, a3⟩ := h
  exact ⟨as, ev_cb (ea_cons a1 ea_nil) rc_lstT, a2, a3⟩
theorem vc_val {c : List PyData → PyData} {R : PyData → Prop} (h : EvC K c te σ B H P n) (hr : ∀ ds, (∀ d ∈ ds, P d) → ds.length ≤ n → R (c ds)) : EvV K te σ B H R := by
  obtain ⟨ds, h1, h2, h3⟩ := h
  exact ⟨_, h1, hr ds h2 h3⟩
theorem vc_var {c : List PyData → PyData} {ds : List PyData} {i : Nat} {v : V} (h : σ[i]? = some (some v)) (hd : Dq K B v (c ds)) (h2 : ∀ d ∈ ds, P d) (h3 : ds.length ≤ n) : EvC K c (tVar i) σ B H P n := ⟨ds, ev_var h hd, h2, h3⟩
theorem vc_imp {c : List PyData → PyData} {R : PyData → Prop} (h : EvC K c te σ B H P n) (hr : ∀ d, P d → R d) : EvC K c te σ B H R n := by
  obtain ⟨ds, h1, h2, h3⟩ := h
  exact ⟨ds, h1, fun d hd => hr d (h2 d hd), h3⟩
theorem q_setC {c : List PyData → PyData} {D : Ends} {tz : TS} {i : Nat} (h : EvC K c te σ B H P n) (e : Ex B H) (q : ∀ ds v B' H', (∀ d ∈ ds, P d) → ds.length ≤ n → Le [] B H B' H' → Dq K B' v (c ds) → tz D (σ.set i (some v)) H') : tSeq (tAsg te (gName i)) tz D σ H := by
  obtain ⟨ds, h1, h2, h3⟩ := h
  exact q_set h1 e fun v B' H' l hv => q ds v B' H' h2 h3 l hv
theorem s_retC {c : List PyData → PyData} {D : Ends} (h : EvC K c te σ B H P n) (e : Ex B H) (q : ∀ ds v B' H', (∀ d ∈ ds, P d) → ds.length ≤ n → Le [] B H B' H' → Dq K B' v (c ds) → D.rt v H') : tRet te D σ H := by
  obtain ⟨ds, h1, h2, h3⟩ := h
  exact s_ret h1 e fun v B' H' l hv => q ds v B' H' h2 h3 l hv
/-! more expressions -/
theorem ev_neg {i : Int} : Ev K (tUn (rU fun i => .int (-i)) (tC (.int i))) σ B H (.int (-i)) := ev_un ev_i fun B H v e hv Q q => by
  cases hv
  exact ⟨i, rfl, q _ B H (Le.refl e) (.int _)⟩
theorem ev_dict0 : Ev K tDNewK σ B H (.dict []) := fun B1 H1 l Q q p hp => q (.ref p) _ _ (Le.new l.h hp) (by
  have h := Dq.dct (K := K) (H := upd B1 p (.dK [])) (a := p) (kvs := []) (ds := []) upd_same .nil
  exact h)
theorem rc_str {i : Int} (h : i.natAbs.log2 < 1920) : RC K rStrI [.int i] (.str (toString i)) := fun B H vs e hvs Q q => by
  obtain ⟨v, rfl, hv⟩ := dq1 hvs
  cases hv
  exact ⟨i, rfl, h, q _ B H (Le.refl e) (.str _)⟩
theorem ev_bmS {r : V → List V → Hp → VK → Prop} {s : PySem.Str} {ts : TA} {ds : List PyData} {z : PyData} (ho : Ev K te σ B H (.str s)) (ha : EvA K ts σ B H ds) (hr : RM K r (.str s) ds z) : Ev K (tBM K "str" r te ts) σ B H z := fun B1 H1 l Q q =>
  ho B1 H1 l _ fun v B2 H2 l2 hv => ⟨by cases hv; rfl, ha B2 H2 (l.trans l2) _ fun vs B3 H3 l3 hs => hr B3 H3 v vs l3.h (hv.mono l3.b) hs Q fun o B4 H4 l4 ho => q o B4 H4 ((l2.trans l3).trans l4) ho⟩
theorem ev_bm0S {r : V → List V → Hp → VK → Prop} {s : PySem.Str} {z : PyData} (ho : Ev K te σ B H (.str s)) (hr : RM K r (.str s) [] z) : Ev K (tBM0 K "str" r te) σ B H z := fun B1 H1 l Q q =>
  ho B1 H1 l _ fun v B2 H2 l2 hv => ⟨by cases hv; rfl, hr B2 H2 v [] l2.h hv .nil Q fun o B4 H4 l4 ho => q o B4 H4 (l2.trans l4) ho⟩
def rJoinA (K : PySem.W.Frag) : V → List V → Hp → VK → Prop := fun x xs H Q => ∃ a p, ∃ ys : List PySem.Str, x = .str a ∧ xs = [.ref p] ∧ (SqL K H p (ys.map V.str) ∨ SqT K H p (ys.map V.str)) ∧
    (ys.map (·.length)).sum + ys.length * a.length ≤ 16777216 ∧ Q (.str (Txt.join a ys)) H
theorem rm_join {a : PySem.Str} {ys : List PySem.Str} (h : (ys.map (·.length)).sum + ys.length * a.length ≤ 16777216) : RM K (rJoinA K) (.str a) [.list (ys.map PyData.str)] (.str (Txt.join a ys)) := fun B H v vs e hv hvs Q q => by
  cases hv
  obtain ⟨u, rfl, hu⟩ := dq1 hvs
  cases hu with
  | lst h1 q1 =>
    cases ofStrs q1
    exact ⟨a, _, ys, rfl, rfl, .inl (.inl (.inl (e _ _ h1))), h, q _ B H (Le.refl e) (.str _)⟩
def rUpA : V → List V → Hp → VK → Prop := fun x xs H Q => ∃ a, x = .str a ∧ xs = [] ∧ a.length ≤ 5592405 ∧ Q (.str (Txt.upper a)) H
theorem rm_up {a : PySem.Str} (h : a.length ≤ 5592405) : RM K rUpA (.str a) [] (.str (Txt.upper a)) := fun B H v vs e hv hvs Q q => by
  cases hv
  cases hvs
  exact ⟨a, rfl, rfl, h, q _ B H (Le.refl e) (.str _)⟩
theorem rgV_nat (n : Nat) : rgV 0 n = ((List.range n).map fun (i : Nat) => (i : Int)).map V.int := by
  unfold rgV
  rw [List.map_map, show ((n : Int) - 0).toNat = n by omega]
  refine List.map_congr_left fun i _ => ?_
  show V.int (0 + (i : Int)) = V.int i
  rw [Int.zero_add]
theorem ev_tupRg {n : Nat} (hn : n ≤ 1000) : Ev K (tTupRg (tRg1 (tC (.int (n : Nat))))) σ B H (.tuple (((List.range n).map fun (i : Nat) => (i : Int)).map PyData.int)) := fun B1 H1 l Q q => by
  refine ⟨(n : Nat), rfl, .of_le (by decide) (by omega) (by decide) (by omega), fun p hp => ?_⟩
  rw [rgV_nat]
  exact q (.ref p) _ _ (Le.new l.h hp) (.tup (.inl (.inl upd_same)) (dqInts _))
def tokB (k : Int) : Bool := decide ((toString k : PySem.Str).length ≤ 2) && (toString k : PySem.Str).cps.toList.all fun c => decide (c < 16 ^ 8)
theorem tok_items : ∀ k ∈ ints60, tokB k = true := by decide +kernel
theorem tok_item {k : Int} (h0 : 0 ≤ k) (h1 : k < 60) : tokB k = true := by
  refine tok_items k ?_
  unfold ints60
  exact List.mem_map.mpr ⟨k.toNat, List.mem_range.mpr (by omega), by omega⟩
/-- a short text of ints: its signs -/
theorem pl_join {ns : List Int} (h : ∀ k ∈ ns, 0 ≤ k ∧ k < 60) (hl : ns.length ≤ 60) : (((ns.map fun k => (toString k : PySem.Str)).map (·.length)).sum + (ns.map fun k => (toString k : PySem.Str)).length * (" " : PySem.Str).length ≤ 16777216) ∧ Pl 0 400 (.str (Txt.join " " (ns.map fun k => (toString k : PySem.Str)))) := by
  have hk : ∀ k ∈ ns, (toString k : PySem.Str).length ≤ 2 ∧ ∀ c ∈ (toString k : PySem.Str).cps.toList, c < 16 ^ 8 := fun k hk => by
    have := tok_item (h k hk).1 (h k hk).2
    simp only [tokB, Bool.and_eq_true, decide_eq_true_eq, List.all_eq_true] at this
    exact this
  have hs : ∀ ms : List Int, (∀ k ∈ ms, (toString k : PySem.Str).length ≤ 2) → ((ms.map fun k => (toString k : PySem.Str)).map (·.length)).sum ≤ 2 * ms.length := by
    intro ms
    induction ms with
    | nil => intro _; exact Nat.le_refl _
    | cons a r ih =>
      intro h
      have h1 := h a (List.mem_cons_self ..)
      have h2 := ih fun k hk => h k (List.mem_cons_of_mem _ hk)
      simp only [List.map_cons, List.sum_cons, List.length_cons] at h2 ⊢
      omega
  have h1 := hs ns fun k hk' => (hk k hk').1
  have h2 : (" " : PySem.Str).length = 1 := by rfl
  have h3 : (ns.map fun k => (toString k : PySem.Str)).length = ns.length := List.length_map ..
  refine ⟨by rw [h2, h3]; omega, ⟨by rfl, ?_, ?_, by show 0 ≤ 0; decide⟩, rfl, rfl⟩
  · rw [TL.join_eq]
    simp only [PyData.leavesShort, List.all_eq_true, decide_eq_true_eq]
    intro c hc
    rcases (PyProof.Rows.mem_join _ c _).mp hc with ⟨t, ht, hc⟩ | ⟨_, hc⟩
    · obtain ⟨k, hk', rfl⟩ := List.mem_map.mp ht
      exact (hk k hk').2 c hc
    · have : ∀ c ∈ (" " : PySem.Str).cps.toList, c < 16 ^ 8 := by decide
      exact this c hc
  · rw [TL.join_eq]
    have := StrLaws.join_length_le " " (ns.map fun k => (toString k : PySem.Str))
    rw [h2, h3] at this
    show (PySem.Str.join " " _).length ≤ 400
    omega
end
/-! odd values and the lists of them -/
def OddV (d : PyData) : Prop := Od 1 70 d ∧ tlen d ≤ 1000
def CmdV (d : PyData) : Prop := Od 2 300 d ∧ tlen d ≤ 1000
theorem odd_of {d : PyData} (h : plB d = true) (ht : tlen d = 0 := by rfl) : OddV d := ⟨(pl_of h).od.mono (by decide) (by decide), by omega⟩
theorem odd_int {i : Int} (h0 : 0 ≤ i) (h1 : i < 60) : OddV (.int i) := ⟨(pl_int h0 h1).od.mono (by decide) (by decide), by show 0 ≤ 1000; decide⟩
theorem odd_t0 : OddV (.tuple []) := ⟨(Pl.tup (k := 0) (w := 0) (W := 70) (xs := []) (by simp) (by decide)).od, by show 0 ≤ 1000; decide⟩
theorem odd_l0 : OddV (.list []) := ⟨Od.lst (k := 0) (w := 0) (W := 70) (xs := []) (by simp) (by decide), by show 0 ≤ 1000; decide⟩
theorem odd_d0 : OddV (.dict []) := ⟨⟨⟨by decide, by decide, by decide, by decide⟩, .inr (by decide)⟩, by show 0 ≤ 1000; decide⟩
theorem OddV.cmd {d : PyData} (h : OddV d) : CmdV d := ⟨h.1.mono (by decide) (by decide), h.2⟩
theorem OddV.ov {d : PyData} (h : OddV d) : Ov d := ⟨h.1.mono (by decide) (by decide), h.2⟩
theorem CmdV.ov {d : PyData} (h : CmdV d) : Ov d := ⟨h.1.mono (by decide) (by decide), h.2⟩
/-- plain, or this odd one -/
def PO (k w : Nat) (o x : PyData) : Prop := x = o ∨ Pl k w x
theorem po_pl {o x : PyData} (h : Pl 0 70 x) : PO 1 70 o x := .inr (h.mono (by decide) (by decide))
theorem ov_tup1 {o : PyData} (ho : OddV o) {ds : List PyData} (h : ∀ d ∈ ds, PO 1 70 o d) {n : Nat} (hn : ds.length ≤ n) (h1 : n ≤ 1000) : Ov (.tuple ds) :=
  ⟨(Od.tup (W := 71000) ho.1 h (len_mul (m := 1000) (by omega) (by decide))).mono (by decide) (by decide), by show ds.length ≤ 1000; omega⟩
theorem cmd_tup1 {o : PyData} (ho : OddV o) {ds : List PyData} (h : ∀ d ∈ ds, PO 1 70 o d) (hn : ds.length ≤ 4) : CmdV (.tuple ds) :=
  ⟨(Od.tup (W := 300) ho.1 h (len_mul (m := 4) hn (by decide))).mono (by decide) (by decide), by show ds.length ≤ 1000; omega⟩
theorem ov_tup2 {o : PyData} (ho : CmdV o) {ds : List PyData} (h : ∀ d ∈ ds, PO 2 300 o d) {n : Nat} (hn : ds.length ≤ n) (h1 : n ≤ 1000) : Ov (.tuple ds) :=
  ⟨(Od.tup (W := 301000) ho.1 h (len_mul (m := 1000) (by omega) (by decide))).mono (by decide) (by decide), by show ds.length ≤ 1000; omega⟩
theorem ov_lst {k w n : Nat} {ds : List PyData} (h : ∀ d ∈ ds, Pl k w d) (hn : ds.length ≤ n) (h1 : n * (w + 1) ≤ 400000) (hk : k ≤ 5) : Ov (.list ds) :=
  ⟨(Od.lst (W := 400000) h (len_mul hn h1)).mono (by omega) (by decide), by show 0 ≤ 1000; decide⟩
theorem ov_pltup {k w n : Nat} {ds : List PyData} (h : ∀ d ∈ ds, Pl k w d) (hn : ds.length ≤ n) (h1 : n * (w + 1) ≤ 400000) (hk : k ≤ 5) (hn2 : n ≤ 1000) : Ov (.tuple ds) :=
  ⟨(Pl.tup (W := 400000) h (len_mul hn h1)).od.mono (by omega) (by decide), by show ds.length ≤ 1000; omega⟩
theorem cmd_pltup {ds : List PyData} (h : ∀ d ∈ ds, Pl 0 70 d) (hn : ds.length ≤ 4) : CmdV (.tuple ds) :=
  ⟨(Pl.tup (W := 300) h (len_mul hn (by decide))).od.mono (by decide) (by decide), by show ds.length ≤ 1000; omega⟩
theorem cmd_pllst {ds : List PyData} (h : ∀ d ∈ ds, Pl 0 70 d) (hn : ds.length ≤ 4) : CmdV (.list ds) :=
  ⟨(Od.lst (W := 300) h (len_mul hn (by decide))).mono (by decide) (by decide), by show 0 ≤ 1000; decide⟩
theorem pl_cmd {xs : List Int} (hx : ∀ k ∈ xs, 0 ≤ k ∧ k < 60) {c : PyData} (h : GoodC xs c) : Pl 1 300 c := by
  obtain ⟨w, i, j, rfl, hw, hi, hj, _⟩ := h
  refine Pl.tup (w := 70) (fun x hx' => ?_) (by show 3 * (70 + 1) ≤ 300; decide)
  simp only [List.mem_cons, List.mem_nil_iff, or_false] at hx'
  rcases hx' with rfl | rfl | rfl
  · exact pl_word hw
  · exact pl_int (hx i hi).1 (hx i hi).2
  · exact pl_int (hx j hj).1 (hx j hj).2
abbrev LinesS (K : PySem.W.Frag) : Sp := Bg K (fun ds => ∃ xs : List Int, ds = [.tuple (xs.map PyData.int)] ∧ 1 ≤ xs.length ∧ xs.length ≤ 60 ∧ ∀ k ∈ xs, 0 ≤ k ∧ k < 60) fun _ d => ∃ es, d = .list es ∧ es.length ≤ 200 ∧ ∀ e ∈ es, Ov e
abbrev CmdsS (K : PySem.W.Frag) : Sp := Bg K (fun ds => ∃ (xs : List Int) (cs : List PyData), ds = [.tuple cs] ∧ 1 ≤ cs.length ∧ cs.length ≤ 200 ∧ (∀ k ∈ xs, 0 ≤ k ∧ k < 60) ∧ ∀ c ∈ cs, GoodC xs c) fun _ d => ∃ es, d = .list es ∧ 1 ≤ es.length ∧ es.length ≤ 100 ∧ ∀ e ∈ es, CmdV e
abbrev ScrsS (K : PySem.W.Frag) : Sp := Bg K (fun ds => ∃ (xs : List Int) (cs : List PyData), ds = [.tuple cs] ∧ 1 ≤ cs.length ∧ cs.length ≤ 200 ∧ (∀ k ∈ xs, 0 ≤ k ∧ k < 60) ∧ ∀ c ∈ cs, GoodC xs c) fun _ d => ∃ es, d = .list es ∧ es.length ≤ 200 ∧ ∀ e ∈ es, Ov e
theorem size_ok {n : Nat} (h : n ≤ 100000) : n ≤ sizeLine := by
  have hsl : 100000 < sizeLine := by rw [sizeLine_eq]; decide
  omega
section
variable {K : PySem.W.Frag} {g : Addr} {σ : L2.St} {B H : Hp} {te : TE} {D : Ends} {tz : TS} {R : PyData → Prop}
theorem b_asg3 {i j l : Nat} {S : PyData → PyData → PyData → Prop} (h : Eb K g te σ B H R) (e : Ex B H) (b : Bag g B H) (hR : ∀ d, R d → ∃ x y z, d = .tuple [x, y, z] ∧ S x y z)
    (q : ∀ a b c x y z B' H', S a b c → Le [g] B H B' H' → Bag g B' H' → Dq K B' x a → Dq K B' y b → Dq K B' z c → tz D (((σ.set i (some x)).set j (some y)).set l (some z)) H') :
    tSeq (tAsg te (gTup K 3 (gCons (gName i) (gCons (gName j) (gCons (gName l) gNil))))) tz D σ H := h B H (Le.refl e) b _ fun d v B' H' r l b' hv => by
  obtain ⟨x, y, z, rfl, hs⟩ := hR d r
  exact gt3 l.h hv fun a b c ha hb hc => q x y z a b c B' H' hs l b' ha hb hc
/-- a list's item at a number below its length -/
theorem eb_at {ta tb : TE} {ds : List PyData} {n : Int} (ha : ∀ B1 H1, Le [g] B H B1 H1 → Ev K ta σ B1 H1 (.list ds)) (hb : Eb K g tb σ B H (RI fun r => 0 ≤ r ∧ r < n)) (hn : n = ds.length) : Eb K g (tOp (rIx K) ta tb) σ B H (· ∈ ds) :=
  eb_op (eb_of ha) hb fun x y hx hy => by
    subst hx
    obtain ⟨r, rfl, r0, r1⟩ := hy
    have hr : r.toNat < ds.length := by omega
    have z := atI_nat (List.getElem?_eq_getElem hr)
    rw [show ((r.toNat : Nat) : Int) = r by omega] at z
    exact ⟨_, rv_ixL z, List.getElem_mem hr⟩
theorem eb_atT {ta tb : TE} {ds : List PyData} {n : Int} (ha : ∀ B1 H1, Le [g] B H B1 H1 → Ev K ta σ B1 H1 (.tuple ds)) (hb : Eb K g tb σ B H (RI fun r => 0 ≤ r ∧ r < n)) (hn : n = ds.length) : Eb K g (tOp (rIx K) ta tb) σ B H (· ∈ ds) :=
  eb_op (eb_of ha) hb fun x y hx hy => by
    subst hx
    obtain ⟨r, rfl, r0, r1⟩ := hy
    have hr : r.toNat < ds.length := by omega
    have z := atI_nat (List.getElem?_eq_getElem hr)
    rw [show ((r.toNat : Nat) : Int) = r by omega] at z
    exact ⟨_, rv_ixT z, List.getElem_mem hr⟩
end
end MA

set_option maxRecDepth 100000
set_option maxHeartbeats 2000000
namespace MA
open PySem PySem.Spec PyProof.Rows L2
/-! ## what commands do to a row: the row by the command's own map -/
def cmdMap (b : Bool) (i j r : Int) : List Int := if r = i then [] else if r = j then (if b then [j, i] else [i, j]) else [r]
/-- take i out, put it behind or before j -/
def stepI (b : Bool) (i j : Int) (R : List Int) : List Int :=
  (R.erase i).take ((R.erase i).idxOf j + (if b then 1 else 0)) ++ [i] ++ (R.erase i).drop ((R.erase i).idxOf j + (if b then 1 else 0))
theorem flatMap_erase {m : Int → List Int} {i : Int} (h : m i = []) : ∀ R : List Int, (R.erase i).flatMap m = R.flatMap m
  | [] => rfl
  | a :: R => by
    rw [List.erase_cons]
    by_cases z : a = i
    · subst z
      rw [if_pos (by simp), List.flatMap_cons, h, List.nil_append]
    · rw [if_neg (by simp [z]), List.flatMap_cons, List.flatMap_cons, flatMap_erase h R]
theorem flatMap_self {m : Int → List Int} : ∀ {R : List Int}, (∀ a ∈ R, m a = [a]) → R.flatMap m = R
  | [], _ => rfl
  | a :: R, h => by
    rw [List.flatMap_cons, h a (List.mem_cons_self ..), flatMap_self fun x hx => h x (List.mem_cons_of_mem _ hx)]
    rfl
theorem split_at {j : Int} : ∀ {R : List Int}, R.count j = 1 → ∃ A B, R = A ++ j :: B ∧ j ∉ A ∧ j ∉ B ∧ R.idxOf j = A.length
  | [], h => by simp at h
  | a :: R, h => by
    by_cases z : a = j
    · subst z
      refine ⟨[], R, rfl, by simp, fun m => ?_, by simp⟩
      have := List.one_le_count_iff.mpr m
      rw [List.count_cons_self] at h
      omega
    · rw [List.count_cons_of_ne z] at h
      obtain ⟨A, B, e, h1, h2, h3⟩ := split_at h
      refine ⟨a :: A, B, by rw [e]; rfl, fun m => ?_, h2, ?_⟩
      · rcases List.mem_cons.mp m with w | w
        · exact z w.symm
        · exact h1 w
      · rw [List.idxOf_cons, show (a == j) = false by simp [z], h3]
        rfl
theorem step_cut {b : Bool} {i j : Int} {R : List Int} (hi : R.count i = 1) (hj : R.count j = 1) (hne : i ≠ j) :
    ∃ A B, R.erase i = A ++ j :: B ∧ j ∉ A ∧ j ∉ B ∧ i ∉ A ∧ i ∉ B ∧ (R.erase i).idxOf j = A.length ∧ stepI b i j R = A ++ (if b then [j, i] else [i, j]) ++ B := by
  have h1 : (R.erase i).count j = 1 := by rw [List.count_erase_of_ne (Ne.symm hne), hj]
  have h2 : (R.erase i).count i = 0 := by rw [List.count_erase_self, hi]
  obtain ⟨A, B, e, a1, a2, a3⟩ := split_at h1
  have hni : i ∉ A ++ j :: B := by rw [← e]; exact List.count_eq_zero.mp h2
  refine ⟨A, B, e, a1, a2, fun m => hni (List.mem_append_left _ m), fun m => hni (List.mem_append_right _ (List.mem_cons_of_mem _ m)), a3, ?_⟩
  unfold stepI
  rw [a3, e]
  cases b with
  | true =>
    have t1 : (A ++ j :: B).take (A.length + 1) = A ++ [j] := by rw [List.take_append, List.take_of_length_le (by omega), Nat.add_sub_cancel_left]; rfl
    have t2 : (A ++ j :: B).drop (A.length + 1) = B := by rw [List.drop_append, List.drop_of_length_le (by omega), Nat.add_sub_cancel_left]; rfl
    simp only [if_true, t1, t2, List.append_assoc, List.cons_append, List.nil_append]
  | false =>
    have t1 : (A ++ j :: B).take (A.length + 0) = A := by rw [Nat.add_zero, List.take_left']; rfl
    have t2 : (A ++ j :: B).drop (A.length + 0) = j :: B := by rw [Nat.add_zero, List.drop_left']; rfl
    simp only [Bool.false_eq_true, if_false, t1, t2, List.append_assoc, List.cons_append, List.nil_append]
theorem step_map {b : Bool} {i j : Int} {R : List Int} (hi : R.count i = 1) (hj : R.count j = 1) (hne : i ≠ j) : stepI b i j R = R.flatMap (cmdMap b i j) := by
  obtain ⟨A, B, e, a1, a2, a3, a4, _, h⟩ := step_cut (b := b) hi hj hne
  have m0 : cmdMap b i j i = [] := by unfold cmdMap; rw [if_pos rfl]
  have mj : cmdMap b i j j = if b then [j, i] else [i, j] := by unfold cmdMap; rw [if_neg (Ne.symm hne), if_pos rfl]
  have self : ∀ {C : List Int}, i ∉ C → j ∉ C → C.flatMap (cmdMap b i j) = C := fun h1 h2 => flatMap_self fun a ha => by
    unfold cmdMap
    rw [if_neg (fun z : a = i => h1 (z ▸ ha)), if_neg (fun z : a = j => h2 (z ▸ ha))]
  rw [h, ← flatMap_erase m0 R, e, List.flatMap_append, List.flatMap_cons, self a3 a1, self a4 a2, mj, List.append_assoc]
theorem step_perm {b : Bool} {i j : Int} {R : List Int} (hi : R.count i = 1) (hj : R.count j = 1) (hne : i ≠ j) : (stepI b i j R).Perm R := by
  obtain ⟨A, B, e, _, _, _, _, _, h⟩ := step_cut (b := b) hi hj hne
  have m : i ∈ R := List.one_le_count_iff.mp (by omega)
  have p := List.perm_cons_erase m
  rw [e] at p
  rw [h]
  refine .trans ?_ p.symm
  cases b with
  | true =>
    show (A ++ [j, i] ++ B).Perm (i :: (A ++ j :: B))
    have q : (A ++ [j, i] ++ B).Perm ((A ++ [j]) ++ i :: B) := by rw [List.append_assoc, List.append_assoc]; exact .refl _
    refine q.trans (List.perm_middle.trans ?_)
    rw [List.append_assoc]
    exact .refl _
  | false =>
    show (A ++ [i, j] ++ B).Perm (i :: (A ++ j :: B))
    rw [List.append_assoc]
    exact List.perm_middle
/-! a script -/
def cmdB : PyData → Bool
  | .tuple (.str x :: _) => decide (x = "behind")
  | _ => false
def stepD (R : List Int) (c : PyData) : List Int := match itemsD' c with
  | some (i, j) => stepI (cmdB c) i j R
  | none => R
where itemsD' : PyData → Option (Int × Int)
  | .tuple [_, .int i, .int j] => some (i, j)
  | _ => none
def mapD (c : PyData) (r : Int) : List Int := match stepD.itemsD' c with
  | some (i, j) => cmdMap (cmdB c) i j r
  | none => [r]
def playL (S : List PyData) (R : List Int) : List Int := S.foldl stepD R
def scrMap : List PyData → Int → List Int
  | [], r => [r]
  | c :: S, r => (mapD c r).flatMap (scrMap S)
/-- a row in which each item of the commands stands once -/
def Fit (xs R : List Int) : Prop := ∀ k ∈ xs, R.count k = 1
theorem step_of {xs R : List Int} {c : PyData} (hc : GoodC xs c) (hf : Fit xs R) : stepD R c = R.flatMap (mapD c) ∧ (stepD R c).Perm R := by
  obtain ⟨w, i, j, rfl, _, hi, hj, hne⟩ := hc
  exact ⟨step_map (hf i hi) (hf j hj) hne, step_perm (hf i hi) (hf j hj) hne⟩
theorem play_of {xs : List Int} : ∀ (S : List PyData) {R : List Int}, (∀ c ∈ S, GoodC xs c) → Fit xs R → playL S R = R.flatMap (scrMap S) ∧ (playL S R).Perm R
  | [], R, _, _ => ⟨(flatMap_self fun a _ => rfl).symm, .refl _⟩
  | c :: S, R, h, hf => by
    obtain ⟨h1, h2⟩ := step_of (h c (List.mem_cons_self ..)) hf
    have hf2 : Fit xs (stepD R c) := fun k hk => by rw [h2.count_eq, hf k hk]
    obtain ⟨h3, h4⟩ := play_of S (fun c hc => h c (List.mem_cons_of_mem _ hc)) hf2
    refine ⟨?_, h4.trans h2⟩
    show playL S (stepD R c) = _
    rw [h3, h1, List.flatMap_assoc]
    rfl
theorem scrMap_other {xs : List Int} {r : Int} (hr : r ∉ xs) : ∀ {S : List PyData}, (∀ c ∈ S, GoodC xs c) → scrMap S r = [r]
  | [], _ => rfl
  | c :: S, h => by
    obtain ⟨w, i, j, rfl, _, hi, hj, _⟩ := h c (List.mem_cons_self ..)
    have e : mapD (.tuple [.str w, .int i, .int j]) r = [r] := by
      show cmdMap _ i j r = [r]
      unfold cmdMap
      rw [if_neg (fun z : r = i => hr (z ▸ hi)), if_neg (fun z : r = j => hr (z ▸ hj))]
    show (mapD _ r).flatMap (scrMap S) = [r]
    rw [e, List.flatMap_cons, scrMap_other hr fun c hc => h c (List.mem_cons_of_mem _ hc)]
    rfl
theorem scrMap_append : ∀ (S T : List PyData) (r : Int), scrMap (S ++ T) r = (scrMap S r).flatMap (scrMap T)
  | [], T, r => by show scrMap T r = [r].flatMap (scrMap T); rw [List.flatMap_cons]; exact (List.append_nil _).symm
  | c :: S, T, r => by
    show (mapD c r).flatMap (scrMap (S ++ T)) = ((mapD c r).flatMap (scrMap S)).flatMap (scrMap T)
    rw [List.flatMap_assoc]
    congr 1
    funext x
    exact scrMap_append S T x
theorem scrMap_mem {xs : List Int} {r k : Int} : ∀ {S : List PyData}, (∀ c ∈ S, GoodC xs c) → k ∈ scrMap S r → k = r ∨ k ∈ xs
  | [], _, h => .inl (List.mem_singleton.mp h)
  | c :: S, hS, h => by
    obtain ⟨x, hx, hk⟩ := List.mem_flatMap.mp h
    rcases scrMap_mem (fun c hc => hS c (List.mem_cons_of_mem _ hc)) hk with rfl | h
    · obtain ⟨w, i, j, rfl, _, hi, hj, _⟩ := hS c (List.mem_cons_self ..)
      have hx' : k ∈ cmdMap (cmdB (.tuple [.str w, .int i, .int j])) i j r := hx
      unfold cmdMap at hx'
      split at hx'
      · cases hx'
      · split at hx'
        · split at hx'
          · simp only [List.mem_cons, List.mem_nil_iff, or_false] at hx'
            rcases hx' with rfl | rfl
            · exact .inr hj
            · exact .inr hi
          · simp only [List.mem_cons, List.mem_nil_iff, or_false] at hx'
            rcases hx' with rfl | rfl
            · exact .inr hi
            · exact .inr hj
        · exact .inl (List.mem_singleton.mp hx')
    · exact .inr h
/-! the fences -/
def fencedL (ns : List Int) : List Int := ns.flatMap fun n => [-1, n]
theorem fenced_map {m : Int → List Int} (h : m (-1) = [-1]) (ns : List Int) : (fencedL ns).flatMap m = ns.flatMap fun n => -1 :: m n := by
  unfold fencedL
  rw [List.flatMap_assoc]
  congr 1
  funext n
  show m (-1) ++ (m n ++ []) = _
  rw [h, List.append_nil]
  rfl
/-- the parts behind the fences: a fence opens one, the rest goes to the last -/
def partStep (parts : List (List Int)) (k : Int) : List (List Int) := if k = -1 then parts ++ [[]] else parts.dropLast ++ [(parts.getLastD []) ++ [k]]
theorem part_fill : ∀ (m : List Int) (P : List (List Int)) (l : List Int), -1 ∉ m → m.foldl partStep (P ++ [l]) = P ++ [l ++ m]
  | [], P, l, _ => by rw [List.append_nil]; rfl
  | k :: m, P, l, h => by
    have hk : k ≠ -1 := fun z => h (z ▸ List.mem_cons_self ..)
    have e : partStep (P ++ [l]) k = P ++ [l ++ [k]] := by
      unfold partStep
      rw [if_neg hk, List.dropLast_concat]
      congr 2
      rw [List.getLastD_eq_getLast?, List.getLast?_concat]
      rfl
    rw [List.foldl_cons, e, part_fill m P _ fun z => h (List.mem_cons_of_mem _ z), List.append_assoc]
    rfl
theorem parts_map {m : Int → List Int} : ∀ (ns : List Int) (P : List (List Int)), (∀ n ∈ ns, -1 ∉ m n) → (ns.flatMap fun n => -1 :: m n).foldl partStep P = P ++ ns.map m
  | [], P, _ => by simp
  | n :: ns, P, h => by
    rw [List.flatMap_cons, List.foldl_append, List.foldl_cons]
    have e : partStep P (-1) = P ++ [[]] := by unfold partStep; rw [if_pos rfl]
    rw [e, part_fill _ _ _ (h n (List.mem_cons_self ..)), parts_map ns _ fun x hx => h x (List.mem_cons_of_mem _ hx), List.append_assoc]
    rfl
end MA

set_option maxRecDepth 100000
set_option maxHeartbeats 2000000
namespace MA
open PySem PySem.Spec PyProof.Rows L2
/-! ## the law's loops -/
/-- what was made within is ours: no more known for good -/
def dropB (B : Hp) (a : Addr) : Hp := fun x => if x = a then none else B x
theorem Le.drop {M : List Addr} {B H B' H' : Hp} {a : Addr} (l : Le M B H B' H') (e : Ex B H) (ha : H a = none) : Le M B H (dropB B' a) H' ∧ dropB B' a a = none := by
  have ba : B a = none := by
    cases z : B a with
    | none => rfl
    | some o => rw [e a o z] at ha; cases ha
  refine ⟨⟨fun x o h => ?_, fun x o h => ?_, l.k, l.t, fun x h1 h2 => ?_⟩, if_pos rfl⟩
  · have hne : x ≠ a := fun z => by rw [z, ba] at h; cases h
    show (if x = a then none else B' x) = some o
    rw [if_neg hne]
    exact l.b x o h
  · unfold dropB at h
    split at h
    · cases h
    · exact l.h x o h
  · unfold dropB at h2
    split at h2
    · exact absurd rfl h2
    · exact l.n x h1 h2
section
variable {K : PySem.W.Frag} {g : Addr} {σ : L2.St} {B H : Hp} {tl te : TE} {D : Ends} {tb tz : TS} {gg : TG} {R : PyData → Prop}
theorem s_forL {xs : List PyData} (hl : Ev K tl σ B H (.list xs)) (e : Ex B H) (I : Nat → L2.St → Hp → Prop) (h0 : ∀ B1 H1, Le [] B H B1 H1 → I 0 σ B1)
    (hs : ∀ (i : Nat) (d : PyData) (v : V) σ' B' H' N, Le [] B H B' H' → xs[i]? = some d → Dq K B' v d → I i σ' B' → (∀ σ3 B3 H3, Le [] B' H' B3 H3 → I (i + 1) σ3 B3 → N σ3 H3) →
      gg v σ' H' fun σ2 H2 => tb { D with nx := N, ct := N, bk := D.nx } σ2 H2)
    (hd : ∀ σ' B' H', Le [] B H B' H' → I xs.length σ' B' → D.nx σ' H') : tFor (iList K tl) gg tb D σ H := by
  refine hl B H (Le.refl e) _ fun u B1 H1 l1 hu => ?_
  cases hu with
  | lst hv hq =>
    rename_i a ys
    refine ⟨a, rfl, ⟨ys, .inl (.inl (l1.h _ _ hv))⟩, for_list (xs := ys) (fun i σ' H' => ∃ B', Le [] B1 H1 B' H' ∧ I i σ' B') ⟨B1, Le.refl l1.h, h0 B1 H1 l1⟩ (fun i σ' H' _ p => ?_) (fun i x σ' H' hi p => ?_) (fun σ' H' p => ?_)⟩
    · obtain ⟨B', l, _⟩ := p
      exact .inl (.inl (l.h _ _ (l.b _ _ hv)))
    · obtain ⟨B', l, hI⟩ := p
      obtain ⟨d, hd, hx⟩ := hq.get hi
      exact hs i d x σ' B' H' _ (l1.trans l) hd (hx.mono l.b) hI fun σ3 B3 H3 l3 hI3 => ⟨B3, l.trans l3, hI3⟩
    · obtain ⟨B', l, hI⟩ := p
      rw [hq.length] at hI
      exact hd σ' B' H' (l1.trans l) hI
theorem q_forL {xs : List PyData} (hl : Ev K tl σ B H (.list xs)) (e : Ex B H) (I : Nat → L2.St → Hp → Prop) (h0 : ∀ B1 H1, Le [] B H B1 H1 → I 0 σ B1)
    (hs : ∀ (i : Nat) (d : PyData) (v : V) σ' B' H' N, Le [] B H B' H' → xs[i]? = some d → Dq K B' v d → I i σ' B' → (∀ σ3 B3 H3, Le [] B' H' B3 H3 → I (i + 1) σ3 B3 → N σ3 H3) →
      gg v σ' H' fun σ2 H2 => tb { D with nx := N, ct := N, bk := tz D } σ2 H2)
    (hd : ∀ σ' B' H', Le [] B H B' H' → I xs.length σ' B' → tz D σ' H') : tSeq (tFor (iList K tl) gg tb) tz D σ H := s_forL (D := { D with nx := tz D }) hl e I h0 hs hd
/-- over what the bag gave, the body pure -/
theorem b_forL (hl : Eb K g tl σ B H (fun d => ∃ es, d = .list es ∧ ∀ e ∈ es, R e)) (e : Ex B H) (b : Bag g B H) (I : Nat → L2.St → Hp → Prop) (h0 : ∀ B1 H1, Le [g] B H B1 H1 → I 0 σ B1)
    (hs : ∀ (i : Nat) (d : PyData) (v : V) σ' B' H' N, Le [g] B H B' H' → R d → Dq K B' v d → I i σ' B' → (∀ σ3 B3 H3, Le [] B' H' B3 H3 → I (i + 1) σ3 B3 → N σ3 H3) →
      gg v σ' H' fun σ2 H2 => tb { D with nx := N, ct := N, bk := tz D } σ2 H2)
    (hd : ∀ i σ' B' H', Le [g] B H B' H' → I i σ' B' → tz D σ' H') : tSeq (tFor (iList K tl) gg tb) tz D σ H := by
  refine hl B H (Le.refl e) b _ fun d v B1 H1 r l1 b1 hv => ?_
  obtain ⟨es, rfl, hr⟩ := r
  cases hv with
  | lst hv hq =>
    rename_i a ys
    refine ⟨a, rfl, ⟨ys, .inl (.inl (l1.h _ _ hv))⟩, for_list (xs := ys) (fun i σ' H' => ∃ B', Le [] B1 H1 B' H' ∧ I i σ' B') ⟨B1, Le.refl l1.h, h0 B1 H1 l1⟩ (fun i σ' H' _ p => ?_) (fun i x σ' H' hi p => ?_) (fun σ' H' p => ?_)⟩
    · obtain ⟨B', l, _⟩ := p
      exact .inl (.inl (l.h _ _ (l.b _ _ hv)))
    · obtain ⟨B', l, hI⟩ := p
      obtain ⟨d, hd, hx⟩ := hq.get hi
      exact hs i d x σ' B' H' _ (l1.trans l.any) (hr d (List.mem_of_getElem? hd)) (hx.mono l.b) hI fun σ3 B3 H3 l3 hI3 => ⟨B3, l.trans l3, hI3⟩
    · obtain ⟨B', l, hI⟩ := p
      exact hd _ σ' B' H' (l1.trans l.any) hI
/-- over range(n), n written; the body keeps what is known -/
theorem s_forR {n : Nat} (hn : n ≤ 1000) (e : Ex B H) (I : Nat → L2.St → Hp → Prop) (h0 : I 0 σ B)
    (hs : ∀ (i : Nat) σ' B' H' N, Le [] B H B' H' → I i σ' B' → (∀ σ3 B3 H3, Le [] B' H' B3 H3 → I (i + 1) σ3 B3 → N σ3 H3) →
      gg (.int (0 + (i : Nat))) σ' H' fun σ2 H2 => tb { D with nx := N, ct := N, bk := D.nx } σ2 H2)
    (hd : ∀ σ' B' H', Le [] B H B' H' → I n σ' B' → D.nx σ' H') : tFor (iRng1 (tCons (tC (.int (n : Nat))) tNil)) gg tb D σ H := by
  refine ⟨(n : Nat), rfl, by omega, by omega, ?_⟩
  rw [show ((n : Nat) : Int).toNat = n by omega]
  refine for_range (lo := 0) (n := n) (fun i σ' H' => ∃ B', Le [] B H B' H' ∧ I i σ' B') ⟨B, Le.refl e, h0⟩ (fun i σ' H' _ p => ?_) (fun σ' H' p => ?_)
  · obtain ⟨B', l, hI⟩ := p
    exact hs i σ' B' H' _ l hI fun σ3 B3 H3 l3 hI3 => ⟨B3, l.trans l3, hI3⟩
  · obtain ⟨B', l, hI⟩ := p
    exact hd σ' B' H' l hI
theorem b_asg2 {i j : Nat} {S : PyData → PyData → Prop} (h : Eb K g te σ B H R) (e : Ex B H) (b : Bag g B H) (hR : ∀ d, R d → ∃ x y, d = .tuple [x, y] ∧ S x y)
    (q : ∀ a b x y B' H', S a b → Le [g] B H B' H' → Bag g B' H' → Dq K B' x a → Dq K B' y b → tz D ((σ.set i (some x)).set j (some y)) H') :
    tSeq (tAsg te (gTup K 2 (gCons (gName i) (gCons (gName j) gNil)))) tz D σ H := h B H (Le.refl e) b _ fun d v B' H' r l b' hv => by
  obtain ⟨x, y, rfl, hs⟩ := hR d r
  exact gt2 l.h hv fun a b ha hb => q x y a b B' H' hs l b' ha hb
/-- the law's script, cut, as data -/
theorem ev_slS {i : Nat} {a : Addr} {ns : List Int} {k : Int} (h : σ[i]? = some (some (.ref a))) (hs : SqL K H a (ns.map V.int)) (hk : 0 ≤ k) : Ev K (tSl (rSlAny K) (tVar i) tNoPart (tPart (tC (.int k)))) σ B H (.list ((ns.take k.toNat).map PyData.int)) := fun B1 H1 l Q q => by
  refine ⟨.ref a, h, k, rfl, .inr (.inl ?_)⟩
  have hs1 : SqL K H1 a (ns.map V.int) := Evl.ex_l l.ex hs
  have e1 : cutV (ns.map V.int) none (some k) = (ns.take k.toNat).map V.int := by
    have := cut_to (ns.map V.int) k.toNat
    rw [show ((k.toNat : Nat) : Int) = k by omega] at this
    rw [show cutV (ns.map V.int) none (some k) = cutG (ns.map V.int) none (some k) from rfl, this, List.map_take]
  refine ⟨a, _, rfl, hs1, fun p hp => ?_⟩
  rw [e1]
  exact q (.ref p) _ _ (Le.new l.h hp) (.lst upd_same (dqInts _))
theorem ev_repr {d : PyData} (h : Ev K te σ B H d) (ho : Ov d) : Ev K (tCB (rRepr K) (tCons te tNil)) σ B H (.str d.shown) := ev_cb (ea_cons h ea_nil) fun B H vs e hvs Q q => by
  obtain ⟨v, rfl, hv⟩ := dq1 hvs
  obtain ⟨h1, h2, h3, h4⟩ := ho.repr
  exact ⟨v, d, rfl, hv.mono e, h1, h2, h3, h4, q _ B H (Le.refl e) (.str _)⟩
theorem et_same {s : PySem.Str} {ta tb : TE} (h1 : Ev K ta σ B H (.str s)) (h2 : Ev K tb σ B H (.str s)) : EvT (tTest (tOp (rNeA K) ta tb)) σ B H false := by
  have c := et_test (ev_op h1 h2 rv_neS)
  rw [decide_eq_true rfl] at c
  exact c
theorem ov_bools (x y z : Bool) : Ov (.list [.bool x, .bool y, .bool z]) := ov_lst (k := 0) (w := 70) (n := 3) (fun d hd => by
  simp only [List.mem_cons, List.mem_nil_iff, or_false] at hd
  rcases hd with rfl | rfl | rfl <;> exact pl_of (by revert x y z; decide)) (by show 3 ≤ 3; decide) (by decide) (by decide)
end
end MA

set_option maxRecDepth 100000
set_option maxHeartbeats 2000000
namespace MA
open PySem PySem.Spec PyProof.Rows L2
/-! ## rows of ints that are ours -/
theorem idx_first : ∀ {R : List Int} {k : Int}, k ∈ R → R[R.idxOf k]? = some k ∧ (∀ m : Nat, m < R.idxOf k → R[m]? ≠ some k) ∧ R.eraseIdx (R.idxOf k) = R.erase k
  | [], _, h => by simp at h
  | a :: R, k, h => by
    by_cases z : a = k
    · subst z
      have e : (a :: R).idxOf a = 0 := by simp
      rw [e]
      exact ⟨rfl, fun m hm => absurd hm (by omega), by simp⟩
    · have hk : k ∈ R := by
        rcases List.mem_cons.mp h with e | e
        · exact absurd e.symm z
        · exact e
      obtain ⟨h1, h2, h3⟩ := idx_first hk
      have e : (a :: R).idxOf k = R.idxOf k + 1 := by rw [List.idxOf_cons, show (a == k) = false by simp [z]]; rfl
      rw [e]
      refine ⟨by simpa using h1, fun m hm => ?_, ?_⟩
      · cases m with
        | zero => simpa using z
        | succ m => simpa using h2 m (by omega)
      · rw [List.eraseIdx_cons_succ, h3, List.erase_cons, if_neg (by simp [z])]
section
variable {K : PySem.W.Frag} {p : Addr} {H : Hp} {R : List Int} {k : Int} {Q : VK}
theorem rem_own (hp : H p = some (.lst (R.map V.int))) (hk : k ∈ R) (q : Q .non (upd H p (.lst ((R.erase k).map V.int)))) : rRemI (.ref p) [.int k] H Q := by
  obtain ⟨h1, h2, h3⟩ := idx_first hk
  exact ⟨p, R, k, R.idxOf k, rfl, rfl, hp, h1, h2, by rw [h3]; exact q⟩
theorem eqV_int (a b : Int) : eqV (.int a) (.int b) = decide (a = b) := by
  have := inV_ints a [b]
  simp only [List.map_cons, List.map_nil, List.mem_singleton] at this
  by_cases z : a = b
  · subst z
    first | (simp [eqV]) | rfl
  · first | (simp [eqV, z]) | rfl
theorem idx_own (hp : H p = some (.lst (R.map V.int))) (hk : k ∈ R) (q : Q (.int (R.idxOf k : Nat)) H) : rIndex K (.ref p) [.int k] H Q := by
  obtain ⟨h1, h2, h3⟩ := idx_first hk
  refine ⟨p, R.map V.int, .int k, R.idxOf k, .int k, rfl, rfl, .inl (.inl hp), rfl, flat_ints R, by rw [List.getElem?_map, h1]; rfl, by rw [eqV_int]; exact decide_eq_true rfl, fun m z hm hz => ?_, q⟩
  rw [List.getElem?_map] at hz
  cases e : R[m]? with
  | none => rw [e] at hz; cases hz
  | some a =>
    rw [e] at hz
    cases hz
    rw [eqV_int]
    exact decide_eq_false fun w => h2 m hm (by rw [e, w])
end
section
variable {K : PySem.W.Frag} {p : Addr} {σ : L2.St} {B H : Hp} {te : TE} {d : PyData} {D : Ends} {tz : TS}
theorem ev_callU {Pre : List PyData → Prop} {Post : List PyData → PyData → Prop} {E : XK} {ts : TA} {ds : List PyData} (h : EvA K ts σ B H ds) (hp : Pre ds) (hd : ∀ x, Post ds x → x = d) : Ev K (tCall (Pu K Pre Post) [] E ts) σ B H d := fun B1 H1 l Q q =>
  h B1 H1 l _ fun vs B2 H2 l2 hs => ⟨B2, ds, l2.h, by rw [List.append_nil]; exact hs, hp, fun x hx v B3 H3 l3 hv => by rw [hd x hx] at hv; exact q v B3 H3 (l2.trans l3) hv⟩
/-- p.append(..), p ours, nothing drawn -/
theorem s_append {i : Nat} {vs : List V} (hi : σ[i]? = some (some (.ref p))) (h : Ev K te σ B H d) (e : Ex B H) (hp : B p = none) (hpl : H p = some (.lst vs)) (hz : vs.length < 100000)
    (q : ∀ v B' H', Le [p] B H B' H' → B' p = none → H' p = some (.lst (vs ++ [v])) → Dq K B' v d → D.nx σ H') : tDrop (tBM K "list" rAppend (tVar i) (tCons te tNil)) D σ H := by
  refine ⟨.ref p, hi, .inl ⟨rfl, vs, .inl (.inl hpl)⟩, ?_⟩
  refine h B H (Le.refl e) _ fun v B' H' l hv => ?_
  have hp' := l.own hpl hp
  have hpl' := l.k p _ (by simp) hpl
  have hsl : 100000 < sizeLine := by rw [sizeLine_eq]; decide
  refine ⟨p, vs, v, rfl, rfl, hpl', by omega, ?_⟩
  exact q v B' _ (l.any.trans (Le.put (M := [p]) l.h hp' (by simp))) hp' upd_same hv
end
section
variable {K : PySem.W.Frag} {p : Addr} {σ : L2.St} {H : Hp} {D : Ends} {tz : TS} {R : List Int} {k : Int}
theorem q_rem {i j : Nat} (hi : σ[i]? = some (some (.ref p))) (hj : σ[j]? = some (some (.int k))) (hp : H p = some (.lst (R.map V.int))) (hk : k ∈ R) (q : tz D σ (upd H p (.lst ((R.erase k).map V.int)))) : tSeq (tDrop (tBM K "list" rRemI (tVar i) (tCons (tVar j) tNil))) tz D σ H := by
  refine ⟨.ref p, hi, .inl ⟨rfl, _, .inl (.inl hp)⟩, .int k, hj, ?_⟩
  show rRemI (.ref p) [.int k] H fun _ H1 => tz D σ H1
  exact rem_own hp hk q
theorem q_idx {i j l : Nat} (hi : σ[i]? = some (some (.ref p))) (hj : σ[j]? = some (some (.int k))) (hp : H p = some (.lst (R.map V.int))) (hk : k ∈ R) (q : tz D (σ.set l (some (.int (R.idxOf k : Nat)))) H) : tSeq (tAsg (tBM K "list" (rIndex K) (tVar i) (tCons (tVar j) tNil)) (gName l)) tz D σ H := by
  refine ⟨.ref p, hi, .inl ⟨rfl, _, .inl (.inl hp)⟩, .int k, hj, ?_⟩
  show rIndex K (.ref p) [.int k] H fun v H1 => tz D (σ.set l (some v)) H1
  exact idx_own hp hk q
end
theorem none_of {B H : Hp} (e : Ex B H) {p : Addr} (hp : H p = none) : B p = none := by
  cases z : B p with
  | none => rfl
  | some o => rw [e p o z] at hp; cases hp
theorem q_append {K : PySem.W.Frag} {p : Addr} {σ : L2.St} {B H : Hp} {te : TE} {d : PyData} {D : Ends} {tz : TS} {i : Nat} {vs : List V} (hi : σ[i]? = some (some (.ref p))) (h : Ev K te σ B H d) (e : Ex B H) (hp : B p = none) (hpl : H p = some (.lst vs)) (hz : vs.length < 100000)
    (q : ∀ v B' H', Le [p] B H B' H' → B' p = none → H' p = some (.lst (vs ++ [v])) → Dq K B' v d → tz D σ H') : tSeq (tDrop (tBM K "list" rAppend (tVar i) (tCons te tNil))) tz D σ H := s_append (D := { D with nx := tz D }) hi h e hp hpl hz q
section
variable {K : PySem.W.Frag} {p : Addr} {σ : L2.St} {B H : Hp} {te : TE} {t : TT} {D : Ends} {tz : TS} {i : Nat} {ns : List Int} {k : Bool} {n : Int}
/-- if ..: p.append(n) -/
theorem s_ifApp (ht : EvT t σ B H k) (e : Ex B H) (hv : ∀ B' H', Le [] B H B' H' → Ev K te σ B' H' (.int n)) (hi : σ[i]? = some (some (.ref p))) (hp : B p = none) (hpl : H p = some (.lst (ns.map V.int))) (hz : ns.length < 100000)
    (q : ∀ B' H', Le [p] B H B' H' → B' p = none → H' p = some (.lst ((ns ++ (if k then [n] else [])).map V.int)) → D.nx σ H') : tIfS t (tDrop (tBM K "list" rAppend (tVar i) (tCons te tNil))) tNext D σ H := by
  refine s_if ht e (fun hk B' H' l => ?_) fun hk B' H' l => ?_
  · refine s_append (K := K) (p := p) hi (hv B' H' l) l.h (l.own hpl hp) (l.k p _ (by simp) hpl) (by rw [List.length_map]; exact hz) fun v B2 H2 l2 b2 h2 hv => ?_
    cases hv
    refine q B2 H2 (l.any.trans l2) b2 ?_
    rw [h2, hk, if_pos rfl, List.map_append]
    rfl
  · refine q B' H' l.any (l.own hpl hp) ?_
    rw [hk, if_neg (by decide), List.append_nil]
    exact l.k p _ (by simp) hpl
theorem q_ifApp (ht : EvT t σ B H k) (e : Ex B H) (hv : ∀ B' H', Le [] B H B' H' → Ev K te σ B' H' (.int n)) (hi : σ[i]? = some (some (.ref p))) (hp : B p = none) (hpl : H p = some (.lst (ns.map V.int))) (hz : ns.length < 100000)
    (q : ∀ B' H', Le [p] B H B' H' → B' p = none → H' p = some (.lst ((ns ++ (if k then [n] else [])).map V.int)) → tz D σ H') : tSeq (tIfS t (tDrop (tBM K "list" rAppend (tVar i) (tCons te tNil))) tNext) tz D σ H := s_ifApp (D := { D with nx := tz D }) ht e hv hi hp hpl hz q
end
/-! the program's players -/
abbrev PlayedS (K : PySem.W.Frag) : Sp := Pu K (fun ds => ∃ (xs R : List Int) (cs : List PyData), (ds = [.list (R.map PyData.int), .tuple cs] ∨ ds = [.tuple (R.map PyData.int), .tuple cs]) ∧ (∀ c ∈ cs, GoodC xs c) ∧ Fit xs R ∧ R.length ≤ 1000)
  fun ds d => ∀ (R : List Int) (cs : List PyData), (ds = [.list (R.map PyData.int), .tuple cs] ∨ ds = [.tuple (R.map PyData.int), .tuple cs]) → d = .list ((playL cs R).map PyData.int)
abbrev FencedS (K : PySem.W.Frag) : Sp := Pu K (fun ds => ∃ R : List Int, ds = [.list (R.map PyData.int)] ∧ R.length ≤ 1000) fun ds d => ∀ R : List Int, ds = [.list (R.map PyData.int)] → d = .list ((fencedL R).map PyData.int)
abbrev PartsS (K : PySem.W.Frag) : Sp := Pu K (fun ds => ∃ R : List Int, ds = [.list (((-1) :: R).map PyData.int)] ∧ R.length ≤ 10000) fun ds d => ∀ R : List Int, ds = [.list (R.map PyData.int)] → d = .list ((R.foldl partStep []).map fun l => .tuple (l.map PyData.int))
/-- the law's own players -/
abbrev MovedS (K : PySem.W.Frag) : Sp := Pu K (fun ds => ∃ (R : List Int) (w : PySem.Str) (i j : Int), ds = [.tuple (R.map PyData.int), .tuple [.str w, .int i, .int j]] ∧ (w = "behind" ∨ w = "before") ∧ i ≠ j ∧ R.length ≤ 1000)
  fun ds d => ∃ (R : List Int) (w : PySem.Str) (i j : Int), ds = [.tuple (R.map PyData.int), .tuple [.str w, .int i, .int j]] ∧ d = .tuple ((R.flatMap (cmdMap (decide (w = "behind")) i j)).map PyData.int)
abbrev DoneS (K : PySem.W.Frag) : Sp := Pu K (fun ds => ∃ (xs R : List Int) (cs : List PyData), ds = [.tuple (R.map PyData.int), .tuple cs] ∧ (∀ c ∈ cs, GoodC xs c) ∧ Fit xs R ∧ R.length ≤ 1000)
  fun ds d => ∃ (R : List Int) (cs : List PyData), ds = [.tuple (R.map PyData.int), .tuple cs] ∧ d = .tuple ((playL cs R).map PyData.int)
theorem ints_inj : ∀ {a b : List Int}, a.map PyData.int = b.map PyData.int → a = b
  | [], [], _ => rfl
  | [], _ :: _, h => by cases h
  | _ :: _, [], h => by cases h
  | x :: a, y :: b, h => by
    rw [List.map_cons, List.map_cons] at h
    have h1 := PyData.int.inj (List.cons.inj h).1
    rw [h1, ints_inj (List.cons.inj h).2]
theorem playL_take {cs : List PyData} {R : List Int} {i : Nat} {c : PyData} (h : cs[i]? = some c) : playL (cs.take (i + 1)) R = stepD (playL (cs.take i) R) c := by
  unfold playL
  rw [List.take_add_one, h, List.foldl_append]
  rfl
end MA

set_option maxRecDepth 100000
set_option maxHeartbeats 2000000
namespace MA
open PySem PySem.Spec PyProof.Rows L2
/-! ## dicts from ints -/
def effM (ns : List Int) (F : Int → PyData) : PyData := .dict (ns.map fun n => (.int n, F n))
section
variable {K : PySem.W.Frag} {σ : L2.St} {B H : Hp} {tA tB tl tl1 td ty tx : TE}
theorem zip_val : ∀ {kvs : List (Key × V)} {ds : List PyData} {ns : List Int} {F : Int → PyData} (k : Int), DqAll K H (kvs.map (·.2)) ds → zipK kvs ds = ns.map (fun n => (PyData.int n, F n)) →
    if k ∈ ns then ∃ v, valV kvs (.inl k) = some v ∧ Dq K H v (F k) else valV kvs (.inl k) = none
  | [], ds, ns, F, k, q, e => by
    cases ns with
    | nil => rfl
    | cons n ns => cases ds <;> cases e
  | (k', v) :: kvs, [], ns, F, k, q, e => by cases q
  | (k', v) :: kvs, d :: ds, [], F, k, q, e => by cases e
  | (k', v) :: kvs, d :: ds, n :: ns, F, k, q, e => by
    cases q with
    | cons h q =>
      have e1 : (kD k', d) = (PyData.int n, F n) := (List.cons.inj e).1
      have e2 : zipK kvs ds = ns.map (fun n => (PyData.int n, F n)) := (List.cons.inj e).2
      have ek : k' = .inl n := by
        cases k' with
        | inl i => have := (Prod.mk.inj e1).1; exact congrArg _ (PyData.int.inj this)
        | inr s => have := (Prod.mk.inj e1).1; cases this
      have ed : d = F n := (Prod.mk.inj e1).2
      subst ek ed
      have ih := zip_val k q e2
      by_cases z : n = k
      · subst z
        rw [if_pos (List.mem_cons_self ..)]
        exact ⟨v, valV_pos rfl, h⟩
      · have hv : valV ((Sum.inl n, v) :: kvs) (Sum.inl k : Key) = valV kvs (Sum.inl k) := by
          unfold valV
          rw [List.find?_cons]
          simp [z]
        by_cases w : k ∈ ns
        · rw [if_pos w] at ih
          rw [if_pos (List.mem_cons_of_mem _ w), hv]
          exact ih
        · rw [if_neg w] at ih
          rw [if_neg (fun m => by rcases List.mem_cons.mp m with e | e; exact z e.symm; exact w e), hv]
          exact ih
theorem ev_dget2 {ns : List Int} {F : Int → PyData} {k : Int} {dd : PyData} (hd : Ev K td σ B H (effM ns F)) (hk : Ev K ty σ B H (.int k)) (hx : Ev K tx σ B H dd) : Ev K (tDGet2 td ty tx) σ B H (if k ∈ ns then F k else dd) := fun B1 H1 l Q q =>
  hd B1 H1 l _ fun v B2 H2 l2 hv => by
    unfold effM at hv
    generalize hE : ns.map (fun n => (PyData.int n, F n)) = L at hv
    cases hv with
    | dct h hq =>
      rename_i a kvs ds
      refine ⟨a, rfl, .inl ⟨kvs, .inl (l2.h _ _ h)⟩, ?_⟩
      refine hk B2 H2 (l.trans l2) _ fun w B3 H3 l3 hw => ?_
      cases hw
      refine hx B3 H3 ((l.trans l2).trans l3) _ fun u B4 H4 l4 hu => ?_
      have l24 := l3.trans l4
      refine ⟨valV kvs (.inl k), DGet.k (k := .inl k) (l4.h _ _ (l24.b _ _ h)), ?_⟩
      have z := zip_val (K := K) (H := B4) k (hq.mono l24.b) hE.symm
      by_cases w : k ∈ ns
      · rw [if_pos w] at z q
        obtain ⟨y, e1, e2⟩ := z
        rw [e1]
        exact q y B4 H4 (l2.trans l24) e2
      · rw [if_neg w] at z q
        rw [z]
        exact q u B4 H4 (l2.trans l24) hu
def kvsOf (ns : List Int) (ys : List V) : List (Key × V) := (ns.zip ys).map fun p => (.inl p.1, p.2)
theorem kvs_snd : ∀ {ns : List Int} {ys : List V}, ns.length = ys.length → (kvsOf ns ys).map (·.2) = ys
  | [], [], _ => rfl
  | n :: ns, y :: ys, h => by
    show y :: (kvsOf ns ys).map (·.2) = _
    rw [kvs_snd (by simpa using h)]
  | [], _ :: _, h => by simp at h
  | _ :: _, [], h => by simp at h
theorem kvs_zip {F : Int → PyData} : ∀ {ns : List Int} {ys : List V}, ns.length = ys.length → zipK (kvsOf ns ys) (ns.map F) = ns.map fun n => (PyData.int n, F n)
  | [], [], _ => rfl
  | n :: ns, y :: ys, h => by
    show (PyData.int n, F n) :: zipK (kvsOf ns ys) (ns.map F) = _
    rw [kvs_zip (by simpa using h)]
    rfl
  | [], _ :: _, h => by simp at h
  | _ :: _, [], h => by simp at h
theorem kvs_take {ns : List Int} {ys : List V} {i : Nat} {n : Int} {y : V} (h1 : ns[i]? = some n) (h2 : ys[i]? = some y) : kvsOf (ns.take (i + 1)) (ys.take (i + 1)) = kvsOf (ns.take i) (ys.take i) ++ [(.inl n, y)] := by
  unfold kvsOf
  rw [List.take_add_one, List.take_add_one, h1, h2]
  show ((ns.take i ++ [n]).zip (ys.take i ++ [y])).map _ = _
  have l1 : (ns.take i).length = (ys.take i).length := by
    have a1 := (List.getElem?_eq_some_iff.mp h1).1
    have a2 := (List.getElem?_eq_some_iff.mp h2).1
    rw [List.length_take, List.length_take]
    omega
  rw [List.zip_append l1, List.map_append]
  rfl
theorem kvs_new {ns : List Int} {ys : List V} {i : Nat} {n : Int} (hn : ns.Nodup) (h1 : ns[i]? = some n) : ((kvsOf (ns.take i) (ys.take i)).any fun kv => decide (kv.1 = (Sum.inl n : Key))) = false := by
  rw [List.any_eq_false]
  intro kv hkv
  unfold kvsOf at hkv
  obtain ⟨⟨a, b⟩, hab, rfl⟩ := List.mem_map.mp hkv
  have ha : a ∈ ns.take i := (List.of_mem_zip hab).1
  have hne : a ≠ n := fun z => by
    subst z
    exact (nodup_iff ns).mpr hn i a h1 ha
  simp only [decide_eq_true_eq]
  intro z
  exact hne (Sum.inl.inj z)
/-- {k: x for k, x in zip(ints, list)} -/
theorem evN_dcZip {ns : List Int} {F : Int → PyData} {i1 i2 : Nat} {vs : List Nat} (hA : Ev K tA σ B H (.list (ns.map PyData.int))) (hB : Ev K tB σ B H (.list (ns.map F))) (hn : ns.Nodup) (hz : ns.length ≤ 1000)
    (hw : ∀ x y, wipe (((wipe σ vs).set i1 (some x)).set i2 (some y)) vs = wipe σ vs := by intro _ _; rfl) (g1 : ∀ x y, (((wipe σ vs).set i1 (some x)).set i2 (some y))[i1]? = some (some x) := by intro _ _; rfl) (g2 : ∀ x y, (((wipe σ vs).set i1 (some x)).set i2 (some y))[i2]? = some (some y) := by intro _ _; rfl) :
    EvN K (tDc (iZip K (tCons tA (tCons tB tNil))) (gTup K 2 (gCons (gName i1) (gCons (gName i2) gNil))) tYes (tVar i1) (tVar i2) vs) σ B H (effM ns F) := fun B0 H0 l0 Q q => by
  refine hA B0 H0 l0 _ fun u B1 H1 l1 hu => hB B1 H1 (l0.trans l1) _ fun u2 B2 H2 l2 hu2 => ?_
  cases hu with
  | lst hs hq =>
    rename_i a xs
    cases ofInts hq
    cases hu2 with
    | lst hs2 hq2 =>
      rename_i b ys
      have hl : ns.length = ys.length := by rw [hq2.length, List.length_map]
      refine ⟨a, b, ns.map V.int, ys, rfl, .inl (.inl (l2.h _ _ (l2.b _ _ hs))), .inl (.inl (l2.h _ _ hs2)), fun D hD => ?_⟩
      have W := walk_zip (K := K) (a := a) (b := b) (xs := ns.map V.int) (ys := ys) (n := ns.length) (by rw [List.length_map]; omega)
      have hDb := none_of l2.h hD
      have hsl : 1000 < sizeLine := by rw [sizeLine_eq]; decide
      refine ⟨fun i m Hi => m = ns.length - i ∧ i ≤ ns.length ∧ ∃ Bi, Le [] B2 H2 Bi Hi ∧ Bi D = none ∧ Hi D = some (.dK (kvsOf (ns.take i) (ys.take i))), ⟨_, rfl, Nat.zero_le _, B2, Le.made l2.h hD, hDb, upd_same⟩, ?_⟩
      rintro i m Hi ⟨rfl, hi, Bi, le, hb, hh⟩
      have G : SqL K Hi a (ns.map V.int) ∧ SqL K Hi b ys := ⟨.inl (.inl (le.h _ _ (le.b _ _ (l2.b _ _ hs)))), .inl (.inl (le.h _ _ (le.b _ _ hs2)))⟩
      by_cases hlt : i < ns.length
      · have e1 : ns[i]? = some ns[i] := List.getElem?_eq_getElem hlt
        have e2 : ys[i]? = some ys[i] := List.getElem?_eq_getElem (by omega)
        refine .inr ⟨W.goes i Hi hlt G, fun Hn => ∃ Bi, Le [] B2 H2 Bi Hn ∧ Bi D = none ∧ Hn D = some (.dK (kvsOf (ns.take (i + 1)) (ys.take (i + 1)))), fun Hn p => ⟨ns.length - (i + 1), by omega, rfl, hlt, p⟩, fun x Hy y => ?_⟩
        obtain ⟨T, x1, x2, rfl, hT, rfl, f1, f2⟩ := W.yields i Hi x Hy hlt G y
        have ex1 : x1 = .int ns[i] := by
          have f1' : (ns.map V.int)[i]? = some x1 := f1
          rw [List.getElem?_map, e1] at f1'
          exact (Option.some.inj f1').symm
        have ex2 : x2 = ys[i] := Option.some.inj (f2.symm.trans e2)
        subst ex1 ex2
        have ln := Le.new (M := []) (o := .tup [.int ns[i], ys[i]]) le.h hT
        have hTD : T ≠ D := fun z => by rw [z, hh] at hT; cases hT
        refine ⟨T, [.int ns[i], ys[i]], rfl, .inl (.inl upd_same), rfl, .int ns[i], [ys[i]], rfl, ys[i], [], rfl, rfl, hw _ _, ?_⟩
        refine yes_i ?_
        rw [if_pos rfl]
        have hh2 : (upd Hi T (.tup [.int ns[i], ys[i]])) D = some (.dK (kvsOf (ns.take i) (ys.take i))) := by rw [upd_ne (Ne.symm hTD)]; exact hh
        have hb2 : (upd Bi T (.tup [.int ns[i], ys[i]])) D = none := by rw [upd_ne (Ne.symm hTD)]; exact hb
        refine ⟨.int ns[i], g1 _ _, ys[i], g2 _ _, _, .inl ns[i], rfl, hh2, ?_, ?_⟩
        · have : (kvsOf (ns.take i) (ys.take i)).length ≤ 1000 := by
            unfold kvsOf
            rw [List.length_map, List.length_zip, List.length_take]
            omega
          omega
        · have ep : putK (kvsOf (ns.take i) (ys.take i)) (Sum.inl ns[i] : Key) ys[i] = kvsOf (ns.take (i + 1)) (ys.take (i + 1)) := by
            unfold putK
            rw [kvs_new hn e1, if_neg (by decide), kvs_take e1 e2]
          rw [ep]
          have lp : Le [D] (upd Bi T (.tup [.int ns[i], ys[i]])) (upd Hi T (.tup [.int ns[i], ys[i]])) (upd Bi T (.tup [.int ns[i], ys[i]])) (upd (upd Hi T (.tup [.int ns[i], ys[i]])) D (.dK (kvsOf (ns.take (i + 1)) (ys.take (i + 1))))) := Le.put ln.h hb2 (by simp)
          exact ⟨_, (((le.trans ln).wk (by simp)).trans lp).local hD, hb2, upd_same⟩
      · have ei : i = ns.length := by omega
        subst ei
        refine .inl ⟨W.stops Hi G, ?_⟩
        rw [List.take_length, List.take_of_length_le (by omega)] at hh
        have lg := le.give hD hb hh
        have hd := Dq.dct (K := K) (H := upd Bi D (.dK (kvsOf ns ys))) (a := D) (kvs := kvsOf ns ys) (ds := ns.map F) upd_same (by rw [kvs_snd hl]; exact (hq2.mono le.b).mono (Evl.Ex.new hb))
        rw [kvs_zip hl] at hd
        exact q (.ref D) _ Hi (l1.trans (l2.trans lg)) ⟨D, rfl, (l1.trans l2).back hD⟩ hd
/-- [y for x in t for y in f(x)], ints -/
theorem ev_lc2T {xs : List Int} {j0 j1 : Nat} {vs vs1 : List Nat} (f : Int → List Int) (hl : Ev K tl σ B H (.tuple (xs.map PyData.int))) (hsz : (xs.flatMap f).length ≤ 100000)
    (hi : ∀ (k : Int) B1 H1, Le [] B H B1 H1 → k ∈ xs → Ev K tl1 ((wipe σ vs).set j0 (some (.int k))) B1 H1 (.tuple ((f k).map PyData.int)))
    (hw : ∀ x, wipe ((wipe σ vs).set j0 (some x)) vs = wipe σ vs := by intro _; rfl)
    (hw1 : ∀ x y, wipe ((wipe ((wipe σ vs).set j0 (some x)) vs1).set j1 (some y)) vs1 = wipe ((wipe σ vs).set j0 (some x)) vs1 := by intro _ _; rfl)
    (hg : ∀ x y, ((wipe ((wipe σ vs).set j0 (some x)) vs1).set j1 (some y))[j1]? = some (some y) := by intro _ _; rfl) :
    Ev K (tLc2 (iTup K tl) (gName j0) tYes (iTup K tl1) (gName j1) tYes (tVar j1) vs vs1) σ B H (.list ((xs.flatMap f).map PyData.int)) := fun B0 H0 l0 Q q => by
  refine hl B0 H0 l0 _ fun u B1 H1 l1 hu => ?_
  cases hu with
  | tup hs hq =>
    rename_i a ys
    cases ofInts hq
    have hsl : 100000 < sizeLine := by rw [sizeLine_eq]; decide
    refine ⟨a, rfl, ⟨_, Evl.ex_t l1.h hs⟩, fun D hD => ?_⟩
    have b1 := none_of l1.h hD
    refine ⟨fun i m Hi => m = xs.length - i ∧ i ≤ xs.length ∧ ∃ Bi, Le [] B1 H1 Bi Hi ∧ Bi D = none ∧ Hi D = some (.lst (((xs.take i).flatMap f).map V.int)), ⟨_, rfl, Nat.zero_le _, B1, Le.made l1.h hD, b1, upd_same⟩, ?_⟩
    rintro i m Hi ⟨rfl, hi', Bi, le, hb, hh⟩
    have hsq : SqT K Hi a (xs.map V.int) := Evl.ex_t (le.b.trans le.h) hs
    by_cases hlt : i < xs.length
    · have hx : xs[i]? = some xs[i] := List.getElem?_eq_getElem hlt
      have hy : (xs.map V.int)[i]? = some (.int xs[i]) := by rw [List.getElem?_map, hx]; rfl
      have htk : xs.take (i + 1) = xs.take i ++ [xs[i]] := by rw [List.take_add_one, hx]; rfl
      have hbound : ∀ j, ((xs.take i).flatMap f ++ (f xs[i]).take j).length ≤ 100000 := fun j => by
        have e1 : xs.flatMap f = (xs.take i).flatMap f ++ (f xs[i] ++ (xs.drop (i + 1)).flatMap f) := by
          have : xs = xs.take i ++ (xs[i] :: xs.drop (i + 1)) := by rw [List.getElem_cons_drop, List.take_append_drop]
          conv => lhs; rw [this]
          rw [List.flatMap_append, List.flatMap_cons]
        rw [e1, List.length_append, List.length_append] at hsz
        rw [List.length_append, List.length_take]
        omega
      refine .inr ⟨⟨_, _, hsq, hy⟩, fun Hn => ∃ Bi, Le [] B1 H1 Bi Hn ∧ Bi D = none ∧ Hn D = some (.lst (((xs.take (i + 1)).flatMap f).map V.int)), fun Hn p' => ⟨xs.length - (i + 1), by omega, rfl, hlt, p'⟩, fun x Hy y => ?_⟩
      obtain ⟨rfl, y⟩ := y
      have ex : x = .int xs[i] := Option.some.inj ((y _ hsq).symm.trans hy)
      subst ex
      refine ⟨hw _, yes_i ?_⟩
      rw [if_pos rfl]
      refine hi xs[i] Bi Hy (l0.trans (l1.trans le)) (List.getElem_mem hlt) Bi Hy (Le.refl le.h) _ fun u2 B2 H2 l2 hu2 => ?_
      have b2 := l2.own hh hb
      have hh2 := l2.k D _ (by simp) hh
      cases hu2 with
      | tup hs2 hq2 =>
        rename_i a2 ys2
        cases ofInts hq2
        refine ⟨a2, rfl, ⟨_, Evl.ex_t l2.h hs2⟩, fun j kk Hj => kk = (f xs[i]).length - j ∧ j ≤ (f xs[i]).length ∧ ∃ Bj, Le [D] B2 H2 Bj Hj ∧ Bj D = none ∧ Hj D = some (.lst (((xs.take i).flatMap f ++ (f xs[i]).take j).map V.int)), ⟨_, rfl, Nat.zero_le _, B2, Le.refl l2.h, b2, by rw [List.take_zero, List.append_nil]; exact hh2⟩, ?_⟩
        rintro j kk Hj ⟨rfl, hj, Bj, lj, bj, hj2⟩
        have hsq2 : SqT K Hj a2 ((f xs[i]).map V.int) := Evl.ex_t (lj.b.trans lj.h) hs2
        by_cases hlt2 : j < (f xs[i]).length
        · have hz : (f xs[i])[j]? = some (f xs[i])[j] := List.getElem?_eq_getElem hlt2
          have hzv : ((f xs[i]).map V.int)[j]? = some (.int (f xs[i])[j]) := by rw [List.getElem?_map, hz]; rfl
          refine .inr ⟨⟨_, _, hsq2, hzv⟩, fun Hn => ∃ Bj, Le [D] B2 H2 Bj Hn ∧ Bj D = none ∧ Hn D = some (.lst (((xs.take i).flatMap f ++ (f xs[i]).take (j + 1)).map V.int)), fun Hn p' => ⟨(f xs[i]).length - (j + 1), by omega, rfl, hlt2, p'⟩, fun x2 Hy2 y2 => ?_⟩
          obtain ⟨rfl, y2⟩ := y2
          have ex3 : x2 = .int (f xs[i])[j] := Option.some.inj ((y2 _ hsq2).symm.trans hzv)
          subst ex3
          refine ⟨hw1 _ _, yes_i ?_⟩
          rw [if_pos rfl]
          refine ⟨.int (f xs[i])[j], hg _ _, _, hj2, ?_, Bj, lj.trans (Le.put lj.h bj (by simp)), bj, ?_⟩
          · have := hbound j
            rw [List.length_map]
            omega
          · rw [upd_same, List.take_add_one, hz]
            simp only [List.map_append, Option.toList, List.map_cons, List.map_nil, List.append_assoc]
        · refine .inl ⟨⟨_, hsq2, by rw [List.length_map]; omega⟩, ?_⟩
          have ej : j = (f xs[i]).length := by omega
          subst ej
          refine ⟨Bj, (le.any.trans (l2.any.trans lj)).local hD, bj, ?_⟩
          rw [hj2, List.take_length, htk, List.flatMap_append, List.flatMap_cons, List.flatMap_nil, List.append_nil]
    · have ei : i = xs.length := by omega
      subst ei
      refine .inl ⟨⟨_, hsq, by rw [List.length_map]; exact Nat.le_refl _⟩, ?_⟩
      rw [List.take_length] at hh
      have lg := le.give hD hb hh
      exact q (.ref D) _ Hi (l1.trans lg) (.lst upd_same (dqInts _))
end
end MA

set_option maxRecDepth 100000
set_option maxHeartbeats 2000000
namespace MA
open PySem PySem.Spec PyProof.Rows L2
/-! ## == of rows of ints -/
section
variable {K : PySem.W.Frag} {H : Hp}
theorem dpInts : ∀ ns : List Int, DpAll K H (ns.map V.int) (ns.map PyData.int)
  | [] => .nil
  | n :: r => .cons (.int n) (dpInts r)
theorem lay_ints : ∀ ns : List Int, PyData.canLayAll0 (ns.map PyData.int) = true
  | [] => rfl
  | n :: r => by
    show (PyData.canLay0 (.int n) && PyData.canLayAll0 (r.map PyData.int)) = true
    rw [lay_ints r]
    rfl
theorem depth_ints : ∀ ns : List Int, PyData.depthAll (ns.map PyData.int) = 0
  | [] => rfl
  | n :: r => by
    show max (PyData.depth (.int n)) (PyData.depthAll (r.map PyData.int)) = 0
    rw [depth_ints r]
    rfl
theorem shaped_T (ns : List Int) : SeqAt.shaped (.tuple (ns.map PyData.int)) = true := by
  show (PyData.canLayAll0 (ns.map PyData.int) && decide (PyData.depthAll (ns.map PyData.int) + 1 ≤ 64)) = true
  rw [lay_ints, depth_ints]
  rfl
theorem shaped_L (ns : List Int) : SeqAt.shaped (.list (ns.map PyData.int)) = true := by
  show (PyData.canLayAll0 (ns.map PyData.int) && decide (PyData.depthAll (ns.map PyData.int) + 1 ≤ 64)) = true
  rw [lay_ints, depth_ints]
  rfl
theorem eqv_ints : ∀ as bs : List Int, PyData.eqvAll (as.map PyData.int) (bs.map PyData.int) = decide (as = bs)
  | [], [] => by simp [PyData.eqvAll]
  | [], _ :: _ => by simp [PyData.eqvAll]
  | _ :: _, [] => by simp [PyData.eqvAll]
  | a :: as, b :: bs => by
    show (PyData.eqv (.int a) (.int b) && PyData.eqvAll (as.map PyData.int) (bs.map PyData.int)) = _
    rw [eqv_ints as bs]
    have : PyData.eqv (.int a) (.int b) = decide (a = b) := by
      show (a == b) = _
      by_cases z : a = b <;> simp [z]
    rw [this]
    by_cases z : a = b <;> by_cases y : as = bs <;> simp [z, y]
theorem rv_eqTD {as bs : List Int} : RV K (rEqD K) (.tuple (as.map PyData.int)) (.tuple (bs.map PyData.int)) (.bool (decide (as = bs))) := fun B H v u e hv hu Q q => by
  cases hv with
  | tup h1 q1 =>
    cases hu with
    | tup h2 q2 =>
      cases ofInts q1
      cases ofInts q2
      refine ⟨.tuple (as.map PyData.int), .tuple (bs.map PyData.int), .tup (Evl.ex_t e h1) (dpInts _), .tup (Evl.ex_t e h2) (dpInts _), shaped_T _, shaped_T _, ?_⟩
      rw [show PyData.eqv (.tuple (as.map PyData.int)) (.tuple (bs.map PyData.int)) = decide (as = bs) from by simp only [PyData.eqv]; exact eqv_ints as bs]
      exact q _ B H (Le.refl e) (.bl _)
theorem rv_neTD {as bs : List Int} : RV K (rNeD K) (.tuple (as.map PyData.int)) (.tuple (bs.map PyData.int)) (.bool (!decide (as = bs))) := fun B H v u e hv hu Q q => by
  cases hv with
  | tup h1 q1 =>
    cases hu with
    | tup h2 q2 =>
      cases ofInts q1
      cases ofInts q2
      refine ⟨.tuple (as.map PyData.int), .tuple (bs.map PyData.int), .tup (Evl.ex_t e h1) (dpInts _), .tup (Evl.ex_t e h2) (dpInts _), shaped_T _, shaped_T _, ?_⟩
      rw [show PyData.eqv (.tuple (as.map PyData.int)) (.tuple (bs.map PyData.int)) = decide (as = bs) from by simp only [PyData.eqv]; exact eqv_ints as bs]
      exact q _ B H (Le.refl e) (.bl _)
theorem rv_eqLD {as bs : List Int} : RV K (rEqD K) (.list (as.map PyData.int)) (.list (bs.map PyData.int)) (.bool (decide (as = bs))) := fun B H v u e hv hu Q q => by
  cases hv with
  | lst h1 q1 =>
    cases hu with
    | lst h2 q2 =>
      cases ofInts q1
      cases ofInts q2
      refine ⟨.list (as.map PyData.int), .list (bs.map PyData.int), .lst (.inl (.inl (e _ _ h1))) (dpInts _), .lst (.inl (.inl (e _ _ h2))) (dpInts _), shaped_L _, shaped_L _, ?_⟩
      rw [show PyData.eqv (.list (as.map PyData.int)) (.list (bs.map PyData.int)) = decide (as = bs) from by simp only [PyData.eqv]; exact eqv_ints as bs]
      exact q _ B H (Le.refl e) (.bl _)
theorem rv_neLD {as bs : List Int} : RV K (rNeD K) (.list (as.map PyData.int)) (.list (bs.map PyData.int)) (.bool (!decide (as = bs))) := fun B H v u e hv hu Q q => by
  cases hv with
  | lst h1 q1 =>
    cases hu with
    | lst h2 q2 =>
      cases ofInts q1
      cases ofInts q2
      refine ⟨.list (as.map PyData.int), .list (bs.map PyData.int), .lst (.inl (.inl (e _ _ h1))) (dpInts _), .lst (.inl (.inl (e _ _ h2))) (dpInts _), shaped_L _, shaped_L _, ?_⟩
      rw [show PyData.eqv (.list (as.map PyData.int)) (.list (bs.map PyData.int)) = decide (as = bs) from by simp only [PyData.eqv]; exact eqv_ints as bs]
      exact q _ B H (Le.refl e) (.bl _)
end
/-! ## for k, x in d.items(), d made on the way: the dict is locked behind its making, for good -/
def iItemsL (td : TE) : TI := fun σ H R => td σ H fun x H1 => ∃ d kvs, x = .ref d ∧ H1 d = some (.dK kvs) ∧ ∀ od, R (Iti d od kvs) (upd H1 d (.frz od (.dK kvs)))
theorem pi_itemsL {X : Cx} {e : Expr} {td : TE} {apos cpos : Pos} {elts : List Expr} {kk : Nat} {tpos : Pos} (he : PE X e td) (hbase : attributeBase e "items" X.env (eval e X.env) = eval e X.env := by rfl) (hline : (apos.endLine == cpos.line) = true := by rfl) :
    PI X (.Tuple elts kk tpos) (.Call (.Attribute e "items" apos) [] [] cpos) (iItemsL td) := by
  refine ⟨fun pins s σ H R I h => ?_⟩
  refine wpAny_Call_method (T := "dict") (id := "dict.items") hbase rfl hline PySem.F.plainAttrs_dict PySem.F.slot_dict_items PySem.F.type_dict_items (thn (he.run pins s σ H _ I h) fun u s1 ⟨x, H1, I1, rx, d, kvs, ex, hd, q⟩ => ?_)
  subst ex
  obtain rfl : u = Value.ref d := rx
  obtain ⟨od, IL⟩ := I1.lock hd trivial
  have hdL : (upd H1 d (.frz od (.dK kvs))) d = some (.frz od (.dK kvs)) := upd_same
  obtain ⟨hs, hgd, hx, es, ep, vs, hdt, hsz, kv, hm⟩ := IL.frzK hdL
  have hl : kvs.length = vs.length := Paired.length kv
  refine ⟨hm.dictOf.typeIs, hm.dictOf.mapOf.noDict, ?_⟩
  have I2 : Inv X pins σ (upd H1 d (.frz od (.dK kvs))) { s1 with heap := s1.heap.push { cls := .type "dict_items", data := .fields #[.ref d] } } := IL.kept (t' := s1.toks) fun b ob q => Heap.get?_push_of_some _ q
  have fin : wpAny (model X.prog X.w) X.A (pyIter (.ref s1.heap.objs.size)) (PIE X pins σ (.Tuple elts kk tpos) R) X.xe { s1 with heap := s1.heap.push { cls := .type "dict_items", data := .fields #[.ref d] } } := by
    refine wpAny_pyIter_items (d := d) (knd := mixKind X.prog X.w) ⟨_, Heap.get?_push_size _ rfl, rfl, rfl⟩ (hm.push _) (pi_one (tk := s1.toks) I2 _ (turn_items _ hdt) ⟨.none, .none, ?_⟩ (q od))
    rw [hl]
    exact Heap.get?_push_size _ rfl
  show wpAny _ _ (callWith cpos (.builtin "dict.items") [.ref d] [] []) _ X.xe s1
  exact method_meetsIn PySem.F.slot_dict_items PySem.F.entry_dict_items rfl (PySem.evalArgs_none ⟨rfl, hm.dictOf.typeIs, PySem.F.args_dict_items_1 _, _, meets_dict_items (mixKind X.prog X.w) d hs, ⟨vs, hm.dictOf⟩, fin⟩)
theorem Dq.off {K : PySem.W.Frag} {B : Hp} {d : Addr} {kvs : List (Key × V)} {v : V} {ns : List Int} (h : Dq K B v (.tuple (ns.map PyData.int))) (hd : B d = some (.dK kvs)) : Dq K (dropB B d) v (.tuple (ns.map PyData.int)) := by
  cases h with
  | tup hs hq =>
    rename_i a xs
    cases ofInts hq
    refine .tup ?_ (dqInts _)
    have ne : ∀ o, B a = some o → (∀ l, o ≠ .dK l) → dropB B d a = some o := fun o ho hn => by
      have : a ≠ d := fun z => by rw [z, hd] at ho; cases ho; exact hn _ rfl
      show (if a = d then none else B a) = some o
      rw [if_neg this]
      exact ho
    rcases hs with (h | ⟨od, h⟩) | h
    · exact .inl (.inl (ne _ h fun l z => by cases z))
    · exact .inl (.inr ⟨od, ne _ h fun l z => by cases z⟩)
    · exact .inr h
theorem DqAll.off {K : PySem.W.Frag} {B : Hp} {d : Addr} {kvs : List (Key × V)} {m : Int → List Int} (hd : B d = some (.dK kvs)) : ∀ {vs : List V} {ns : List Int}, DqAll K B vs (ns.map fun n => .tuple ((m n).map PyData.int)) → DqAll K (dropB B d) vs (ns.map fun n => .tuple ((m n).map PyData.int))
  | _, [], h => by cases h; exact .nil
  | _, n :: ns, h => by
    cases h with
    | cons h q => exact .cons (h.off hd) (DqAll.off hd q)
theorem zip_parts : ∀ {kvs : List (Key × V)} {ds : List PyData} {ns : List Int} {F : Int → PyData}, kvs.length = ds.length → zipK kvs ds = ns.map (fun n => (PyData.int n, F n)) → kvs.map (·.1) = ns.map Sum.inl ∧ ds = ns.map F
  | [], [], ns, F, _, e => by
    cases ns with
    | nil => exact ⟨rfl, rfl⟩
    | cons _ _ => cases e
  | (k', v) :: kvs, d :: ds, [], F, _, e => by cases e
  | (k', v) :: kvs, d :: ds, n :: ns, F, h, e => by
    have e1 : (kD k', d) = (PyData.int n, F n) := (List.cons.inj e).1
    obtain ⟨r1, r2⟩ := zip_parts (kvs := kvs) (ds := ds) (ns := ns) (F := F) (by simpa using h) (List.cons.inj e).2
    have ek : k' = .inl n := by
      cases k' with
      | inl i => exact congrArg _ (PyData.int.inj (Prod.mk.inj e1).1)
      | inr s => cases (Prod.mk.inj e1).1
    exact ⟨by rw [List.map_cons, List.map_cons, r1, ek], by rw [List.map_cons, r2, (Prod.mk.inj e1).2]⟩
  | [], _ :: _, _, _, h, _ => by simp at h
  | _ :: _, [], _, _, h, _ => by simp at h
section
variable {K : PySem.W.Frag} {σ : L2.St} {B H : Hp} {td : TE} {D : Ends} {tb tz : TS}
theorem q_forItems {ns : List Int} {m : Int → List Int} {i1 i2 : Nat} (hl : EvN K td σ B H (effM ns fun n => .tuple ((m n).map PyData.int))) (e : Ex B H) (I : Nat → L2.St → Prop) (h0 : I 0 σ)
    (hs : ∀ (i : Nat) (n : Int) (y : V) σ' B' H' N, Le [] B H B' H' → ns[i]? = some n → Dq K B' y (.tuple ((m n).map PyData.int)) → I i σ' → (∀ σ3 B3 H3, Le [] B' H' B3 H3 → I (i + 1) σ3 → N σ3 H3) →
      tb { D with nx := N, ct := N, bk := tz D } ((σ'.set i1 (some (.int n))).set i2 (some y)) H')
    (hd : ∀ σ' B' H', Le [] B H B' H' → I ns.length σ' → tz D σ' H') : tSeq (tFor (iItemsL td) (gTup K 2 (gCons (gName i1) (gCons (gName i2) gNil))) tb) tz D σ H := by
  refine hl B H (Le.refl e) _ fun u B1 H1 l1 hn hu => ?_
  obtain ⟨d, rfl, hdn⟩ := hn
  unfold effM at hu
  generalize hE : ns.map (fun n => (PyData.int n, PyData.tuple ((m n).map PyData.int))) = L at hu
  cases hu with
  | dct h hq =>
    rename_i kvs ds
    obtain ⟨z1, z2⟩ := zip_parts (by have := hq.length; rwa [List.length_map] at this) hE.symm
    subst z2
    have hq1 := DqAll.off h hq
    obtain ⟨ld, dn⟩ := l1.drop e hdn
    refine ⟨d, kvs, rfl, l1.h _ _ h, fun od => ?_⟩
    have lf : Le [] B H (dropB B1 d) (upd H1 d (.frz od (.dK kvs))) := ((ld.wk (by simp)).trans (Le.put (M := [d]) ld.h dn (by simp))).local hdn
    have W := walk_items (d := d) (o := od) (kvs := kvs)
    have hlen : kvs.length = ns.length := by have := congrArg List.length z1; rwa [List.length_map, List.length_map] at this
    refine for_it W (fun i σ' H' => ∃ B', Le [] (dropB B1 d) (upd H1 d (.frz od (.dK kvs))) B' H' ∧ I i σ') ⟨_, Le.refl lf.h, h0⟩ (fun i σ' H' _ p => ?_) (fun i x σ' H' H2 hi p y => ?_) (fun σ' H' p => ?_)
    · obtain ⟨B', l, _⟩ := p
      exact l.k d _ (by simp) upd_same
    · obtain ⟨B', l, hI⟩ := p
      obtain ⟨T, x1, x2, rfl, hT, rfl, f1, f2⟩ := y
      have hn : ns[i]? = some ns[i] := List.getElem?_eq_getElem (by omega)
      obtain ⟨⟨k0, v0⟩, hkv⟩ : ∃ p, kvs[i]? = some p := ⟨kvs[i], List.getElem?_eq_getElem hi⟩
      have ek : k0 = .inl ns[i] := by
        have := congrArg (fun l => l[i]?) z1
        simp only [List.getElem?_map, hkv, hn, Option.map_some] at this
        exact Option.some.inj this
      have e1 : x1 = .int ns[i] := by
        have f1' : (kvs[i]?.map fun kv => kV kv.1) = some x1 := f1
        rw [hkv, ek] at f1'
        exact (Option.some.inj f1').symm
      have e2 : x2 = v0 := by
        have f2' : (kvs[i]?.map Prod.snd) = some x2 := f2
        rw [hkv] at f2'
        exact (Option.some.inj f2').symm
      subst e1 e2
      have hy : Dq K (dropB B1 d) x2 (.tuple ((m ns[i]).map PyData.int)) := by
        obtain ⟨d', hd', hx⟩ := hq1.get (i := i) (v := x2) (by rw [List.getElem?_map, hkv]; rfl)
        rw [List.getElem?_map, hn] at hd'
        cases hd'
        exact hx
      have ln := Le.new (M := []) (o := .tup [.int ns[i], x2]) l.h hT
      refine ⟨T, [.int ns[i], x2], rfl, .inl (.inl upd_same), rfl, .int ns[i], [x2], rfl, x2, [], rfl, rfl, ?_⟩
      exact hs i ns[i] x2 σ' _ _ _ (lf.trans (l.trans ln)) hn ((hy.mono l.b).mono ln.b) hI fun σ3 B3 H3 l3 hI3 => ⟨B3, (l.trans ln).trans l3, hI3⟩
    · obtain ⟨B', l, hI⟩ := p
      rw [hlen] at hI
      exact hd σ' B' H' (lf.trans l) hI
end
end MA

set_option maxRecDepth 100000
set_option maxHeartbeats 2000000
namespace MA
open PySem PySem.Spec PyProof.Rows L2
section
variable {K : PySem.W.Frag} {σ : L2.St} {B H : Hp} {te tn : TE} {tt : TT}
/-- [.. for k in range(n) if ..] -/
theorem ev_lcR {n : Nat} {j : Nat} {vs : List Nat} (f : Nat → Bool) (g : Nat → PyData) (h : Ev K tn σ B H (.int (n : Nat))) (hz : n ≤ 100000)
    (ht : ∀ (i : Nat) B1 H1, Le [] B H B1 H1 → i < n → EvT tt ((wipe σ vs).set j (some (.int (i : Nat)))) B1 H1 (f i))
    (he : ∀ (i : Nat) B1 H1, Le [] B H B1 H1 → i < n → f i = true → Ev K te ((wipe σ vs).set j (some (.int (i : Nat)))) B1 H1 (g i))
    (hw : ∀ x, wipe ((wipe σ vs).set j (some x)) vs = wipe σ vs := by intro _; rfl) :
    Ev K (tLc (iRng1 (tCons tn tNil)) (gName j) tt te vs) σ B H (.list (picked f g n)) := fun B0 H0 l0 Q q => by
  refine h B0 H0 l0 _ fun u B1 H1 l1 hu => ?_
  cases hu
  refine ⟨(n : Nat), rfl, by omega, by omega, fun D hD => ?_⟩
  rw [show ((n : Nat) : Int).toNat = n by omega]
  have hB := none_of l1.h hD
  refine lc_range (lo := 0) (n := n) (Lw K B1 H1 D f g) ⟨B1, [], Le.made l1.h hD, hB, upd_same, .nil⟩ (fun i Hi hi p => ⟨hw _, ?_⟩) fun Hi p => ?_
  · rw [Int.zero_add]
    exact Lw.turn hD p (by omega) (fun Bi l => ht i Bi Hi (l0.trans (l1.trans l)) hi) fun Bi Hj l hf => he i Bi Hj (l0.trans (l1.trans l)) hi hf
  · obtain ⟨Bi, acc, l, hb, hh, hq2⟩ := p
    have lg := l.give hD hb hh
    exact q (.ref D) _ Hi (l1.trans lg) (.lst upd_same (hq2.mono (Evl.Ex.new hb)))
end
theorem find_first {p : Int → Bool} : ∀ {ns : List Int} {k : Nat} {n : Int}, ns[k]? = some n → p n = true → (∀ x ∈ ns.take k, p x = false) → ns.find? p = some n
  | [], k, n, h, _, _ => by simp at h
  | a :: ns, 0, n, h, hp, _ => by
    simp at h
    subst h
    rw [List.find?_cons, hp]
  | a :: ns, k + 1, n, h, hp, hx => by
    rw [List.find?_cons, hx a (by simp)]
    exact find_first (k := k) (by simpa using h) hp fun x hx' => hx x (by rw [List.take_succ_cons]; exact List.mem_cons_of_mem _ hx')
end MA

set_option maxRecDepth 100000
set_option maxHeartbeats 2000000
namespace PySem.W
open PySem PySem.Calls
namespace MCF
theorem entry_perm : entryFor table "math.perm" = some Builtin.«math.perm» := entryFor_of_tree (by kernel_rfl)
theorem kind_perm : builtinKind "math.perm" = none := by kernel_rfl
theorem plain_perm : plainId "math.perm" = true := by decide +kernel
theorem args_perm (a b : Value) : argsOk "math.perm" ⟨[a, b], []⟩ := by unfold argsOk; kernel_rfl
theorem run_perm (a : Int) (t : Tok) (b : Int) (u : Tok) (h0 : ¬a < 0) (h1 : ¬b < 0) (h2 : ¬b > a) (h3 : ¬b > Builtin.Math.maxSsize) (h4 : ¬b > Builtin.Math.manyFactors) (hsz : (Builtin.Math.fallingProduct a b.toNat).natAbs.log2 < bitsLine) :
    Gives (Builtin.«math.perm» ⟨[.int a t, .int b u], []⟩) (.int (Builtin.Math.fallingProduct a b.toNat)) :=
  .of_wp fun M A E s Q h => by obtain ⟨hp, g, d, tk, os⟩ := s; wp_walk; (try (refine wpAny_ite_false (decide_eq_false (Nat.not_le.mpr hsz)) ?_; wp_walk)); exact ⟨_, rfl, h⟩
end MCF
section
variable {prog : Program} {w : World} {A : Around} {E : Value → Shared → Prop} {s : Shared} {Q : Value → Shared → Prop} {a b : Int} {t u : Tok}
theorem xc_perm (h0 : ¬a < 0) (h1 : ¬b < 0) (h2 : ¬b > a) (h3 : ¬b > Builtin.Math.maxSsize) (h4 : ¬b > Builtin.Math.manyFactors) (hsz : (Builtin.Math.fallingProduct a b.toNat).natAbs.log2 < bitsLine)
    (h : Q (.int (Builtin.Math.fallingProduct a b.toNat) s.toks) { s with toks := s.toks + 1 }) : wpAny (model prog w) A (call (.builtin "math.perm") [.int a t, .int b u]) Q E s :=
  call_function_meets MCF.kind_perm MCF.plain_perm MCF.entry_perm (MCF.args_perm _ _) (MCF.run_perm a t b u h0 h1 h2 h3 h4 hsz).meets h
end
end PySem.W
namespace MA
open PySem PySem.Spec PyProof.Rows L2
section
variable {X : Cx}
/-! ## math.factorial, math.perm of small numbers; powers of great ones -/
def rFac : List V → Hp → VK → Prop := fun vs H Q => ∃ n : Int, vs = [.int n] ∧ (0 ≤ n ∧ n ≤ 20000 ∧ ((Builtin.Math.factorialNat n.toNat : Nat) : Int).natAbs.log2 < bitsLine) ∧ Q (.int ((Builtin.Math.factorialNat n.toNat : Nat) : Int)) H
theorem cr_fac : CallR X (.builtin "math.factorial") rFac := by
  intro pins s σ H vs us Q I r h
  obtain ⟨n, rfl, ⟨h0, h1, h2⟩, q⟩ := h
  obtain ⟨u, rfl, t, rfl⟩ := vals1 r
  exact PySem.W.mg_factorial (by unfold Builtin.Math.maxSsize; omega) (by omega) (by unfold Builtin.Math.manyFactors; omega) h2 ⟨.int _, H, I.tok _, ⟨_, rfl⟩, q⟩
def rPerm : List V → Hp → VK → Prop := fun vs H Q => ∃ n k : Int, vs = [.int n, .int k] ∧ (0 ≤ k ∧ k ≤ n ∧ k ≤ 20000 ∧ (Builtin.Math.fallingProduct n k.toNat).natAbs.log2 < bitsLine) ∧ Q (.int (Builtin.Math.fallingProduct n k.toNat)) H
theorem cr_perm : CallR X (.builtin "math.perm") rPerm := by
  intro pins s σ H vs us Q I r h
  obtain ⟨n, k, rfl, ⟨h0, h1, h2, h3⟩, q⟩ := h
  obtain ⟨t, u, rfl⟩ := Vals.int2 r
  exact PySem.W.xc_perm (by omega) (by omega) (by omega) (by unfold Builtin.Math.maxSsize; omega) (by unfold Builtin.Math.manyFactors; omega) h3 ⟨.int _, H, I.tok _, ⟨_, rfl⟩, q⟩
def CPowW (i j : Int) : Prop := 0 ≤ j ∧ (Builtin.Int.intBits i : Int) * j ≤ 2 ^ 27
theorem op_powW : OpR X (binaryOp .Pow) (rI CPowW fun i j => .int (i ^ j.toNat)) := opI fun _ _ _ _ _ _ _ hc q => pow_int hc.1 hc.2 q
theorem cpow {i j : Int} {k : Nat} (h : i.natAbs < 2 ^ k) (h0 : 0 ≤ j) (h1 : (k : Int) * j ≤ 2 ^ 27) : CPowW i j := by
  refine ⟨h0, Int.le_trans ?_ h1⟩
  have := intBits_le h
  exact Int.mul_le_mul_of_nonneg_right (by omega) h0
end
section
variable {K : PySem.W.Frag} {σ : L2.St} {B H : Hp} {D : Ends} {tb tz : TS} {gg : TG}
theorem rc_fac {n : Int} (h : 0 ≤ n ∧ n ≤ 20000 ∧ ((Builtin.Math.factorialNat n.toNat : Nat) : Int).natAbs.log2 < bitsLine) : RC K rFac [.int n] (.int ((Builtin.Math.factorialNat n.toNat : Nat) : Int)) := fun B H vs e hvs Q q => by
  obtain ⟨v, rfl, hv⟩ := dq1 hvs
  cases hv
  exact ⟨n, rfl, h, q _ B H (Le.refl e) (.int _)⟩
theorem rc_perm {n k : Int} (h : 0 ≤ k ∧ k ≤ n ∧ k ≤ 20000 ∧ (Builtin.Math.fallingProduct n k.toNat).natAbs.log2 < bitsLine) : RC K rPerm [.int n, .int k] (.int (Builtin.Math.fallingProduct n k.toNat)) := fun B H vs e hvs Q q => by
  obtain ⟨v, u, rfl, hv, hu⟩ := dq2 hvs
  cases hv
  cases hu
  exact ⟨n, k, rfl, h, q _ B H (Le.refl e) (.int _)⟩
/-- over range(n) or range(m, n), the bounds known; the body keeps what is known -/
theorem s_forN {ta : TA} {n : Int} (hta : EvA K ta σ B H [.int n]) (h0 : 0 ≤ n) (h1 : n ≤ 1000000) (e : Ex B H) (I : Nat → L2.St → Hp → Prop) (hi : ∀ B1 H1, Le [] B H B1 H1 → I 0 σ B1)
    (hs : ∀ (i : Nat) σ' B' H' N, (i : Int) < n → Le [] B H B' H' → I i σ' B' → (∀ σ3 B3 H3, Le [] B' H' B3 H3 → I (i + 1) σ3 B3 → N σ3 H3) →
      gg (.int (0 + (i : Nat))) σ' H' fun σ2 H2 => tb { D with nx := N, ct := N, bk := D.nx } σ2 H2)
    (hd : ∀ σ' B' H', Le [] B H B' H' → I n.toNat σ' B' → D.nx σ' H') : tFor (iRng1 ta) gg tb D σ H := by
  refine hta B H (Le.refl e) _ fun us B1 H1 l1 hus => ?_
  obtain ⟨u, rfl, hu⟩ := dq1 hus
  cases hu
  refine ⟨n, rfl, by omega, by omega, ?_⟩
  refine for_range (lo := 0) (n := n.toNat) (fun i σ' H' => ∃ B', Le [] B1 H1 B' H' ∧ I i σ' B') ⟨B1, Le.refl l1.h, hi B1 H1 l1⟩ (fun i σ' H' hlt p => ?_) (fun σ' H' p => ?_)
  · obtain ⟨B', l, hI⟩ := p
    exact hs i σ' B' H' _ (by omega) (l1.trans l) hI fun σ3 B3 H3 l3 hI3 => ⟨B3, l.trans l3, hI3⟩
  · obtain ⟨B', l, hI⟩ := p
    exact hd σ' B' H' (l1.trans l) hI
theorem q_forN {ta : TA} {n : Int} (hta : EvA K ta σ B H [.int n]) (h0 : 0 ≤ n) (h1 : n ≤ 1000000) (e : Ex B H) (I : Nat → L2.St → Hp → Prop) (hi : ∀ B1 H1, Le [] B H B1 H1 → I 0 σ B1)
    (hs : ∀ (i : Nat) σ' B' H' N, (i : Int) < n → Le [] B H B' H' → I i σ' B' → (∀ σ3 B3 H3, Le [] B' H' B3 H3 → I (i + 1) σ3 B3 → N σ3 H3) →
      gg (.int (0 + (i : Nat))) σ' H' fun σ2 H2 => tb { D with nx := N, ct := N, bk := tz D } σ2 H2)
    (hd : ∀ σ' B' H', Le [] B H B' H' → I n.toNat σ' B' → tz D σ' H') : tSeq (tFor (iRng1 ta) gg tb) tz D σ H := s_forN (D := { D with nx := tz D }) hta h0 h1 e I hi hs hd
theorem q_forN2 {ta : TA} {m n : Int} (hta : EvA K ta σ B H [.int m, .int n]) (h0 : 0 ≤ m) (h2 : m ≤ n) (h1 : n ≤ 1000000) (e : Ex B H) (I : Nat → L2.St → Hp → Prop) (hi : ∀ B1 H1, Le [] B H B1 H1 → I 0 σ B1)
    (hs : ∀ (i : Nat) σ' B' H' N, (i : Int) < n - m → Le [] B H B' H' → I i σ' B' → (∀ σ3 B3 H3, Le [] B' H' B3 H3 → I (i + 1) σ3 B3 → N σ3 H3) →
      gg (.int (m + (i : Nat))) σ' H' fun σ2 H2 => tb { D with nx := N, ct := N, bk := tz D } σ2 H2)
    (hd : ∀ σ' B' H', Le [] B H B' H' → I (n - m).toNat σ' B' → tz D σ' H') : tSeq (tFor (iRng2 ta) gg tb) tz D σ H := by
  refine hta B H (Le.refl e) _ fun us B1 H1 l1 hus => ?_
  obtain ⟨u, v, rfl, hu, hv⟩ := dq2 hus
  cases hu
  cases hv
  refine ⟨m, n, rfl, ⟨by omega, by omega, by omega, by omega⟩, ?_⟩
  refine for_range (lo := m) (n := (n - m).toNat) (fun i σ' H' => ∃ B', Le [] B1 H1 B' H' ∧ I i σ' B') ⟨B1, Le.refl l1.h, hi B1 H1 l1⟩ (fun i σ' H' hlt p => ?_) (fun σ' H' p => ?_)
  · obtain ⟨B', l, hI⟩ := p
    exact hs i σ' B' H' _ (by omega) (l1.trans l) hI fun σ3 B3 H3 l3 hI3 => ⟨B3, l.trans l3, hI3⟩
  · obtain ⟨B', l, hI⟩ := p
    exact hd σ' B' H' (l1.trans l) hI
def rMin2 : List V → Hp → VK → Prop := fun xs H Q => ∃ i j, xs = [V.int i, V.int j] ∧ Q (.int (if j < i then j else i)) H
def rMax2 : List V → Hp → VK → Prop := fun xs H Q => ∃ i j, xs = [V.int i, V.int j] ∧ Q (.int (if j > i then j else i)) H
theorem rc_min {i j : Int} : RC K rMin2 [.int i, .int j] (.int (min i j)) := fun B H vs e hvs Q q => by
  obtain ⟨v, u, rfl, hv, hu⟩ := dq2 hvs
  cases hv
  cases hu
  refine ⟨i, j, rfl, ?_⟩
  rw [show (if j < i then j else i) = min i j by omega]
  exact q _ B H (Le.refl e) (.int _)
theorem rc_max {i j : Int} : RC K rMax2 [.int i, .int j] (.int (max i j)) := fun B H vs e hvs Q q => by
  obtain ⟨v, u, rfl, hv, hu⟩ := dq2 hvs
  cases hv
  cases hu
  refine ⟨i, j, rfl, ?_⟩
  rw [show (if j > i then j else i) = max i j by omega]
  exact q _ B H (Le.refl e) (.int _)
/-- [..] * k -/
theorem rv_mulL {ds : List PyData} {k : Int} (h2 : 0 ≤ k) (h3 : k ≤ 1000) (h4 : ds.length ≤ 100) : RV K (rMulA K) (.list ds) (.int k) (.list (List.replicate k.toNat ds).flatten) := fun B H v u e hv hu Q q => by
  cases hu
  cases hv with
  | lst h1 q1 =>
    rename_i a xs
    have hl := q1.length
    have hm : xs.length * k.toNat ≤ 100 * 1000 := Nat.mul_le_mul (by omega) (by omega)
    refine .inr (.inr ⟨a, k, xs, rfl, rfl, e _ _ h1, by omega, by omega, size_ok hm, fun p hp => ?_⟩)
    exact q (.ref p) _ _ (Le.new e hp) (.lst upd_same ((q1.flatRep _).mono (Le.new (M := []) e hp).b))
end
end MA

set_option maxRecDepth 100000
set_option maxHeartbeats 2000000
namespace MA
open PySem PySem.Spec PyProof.Rows L2

/-! ## {kx: vx for t0 in i0 for t1 in i1} -/
abbrev dc2 (kx vx t0 i0 t1 i1 : Expr) (scope : Scope) (pos : Pos) : Expr := .DictComp kx vx [⟨t0, i0, [], 0⟩, ⟨t1, i1, [], 0⟩] scope pos
theorem dc2_outer (kx vx t0 i0 t1 i1 : Expr) (scope : Scope) (pos : Pos) (it : Value) (D : Addr) (env : Env) :
    compTurn (dc2 kx vx t0 i0 t1 i1 scope pos) 0 it (.ref D) env = (do
      standAt i0.pos
      match ← pyNext it with
      | none => pure (.done .next)
      | some v =>
        letOwnedTupleGo t0 it v
        assign t0 env v
        let x ← eval i1 env
        standAt i1.pos
        let x ← foldedSetIterable i1 env x
        let _ ← runOwn (.compStart (dc2 kx vx t0 i0 t1 i1 scope pos) 1 (← holding [x] (pyIter x)) (.ref D) env) env
        again (.compLoop (dc2 kx vx t0 i0 t1 i1 scope pos) 0 it (.ref D) env)) := by rfl
theorem dc2_inner (kx vx t0 i0 t1 i1 : Expr) (scope : Scope) (pos : Pos) (it : Value) (D : Addr) (env : Env) :
    compTurn (dc2 kx vx t0 i0 t1 i1 scope pos) 1 it (.ref D) env = (do
      standAt i1.pos
      match ← pyNext it with
      | none => pure (.done .next)
      | some v =>
        letOwnedTupleGo t1 it v
        assign t1 env v
        (do
          let kv ← eval kx env
          let vv ← holding [kv] (eval vx env)
          standAt { kx.pos with endLine := vx.pos.endLine, endCol := vx.pos.endCol }
          holding [kv, vv] (dictSet D kv vv))
        again (.compLoop (dc2 kx vx t0 i0 t1 i1 scope pos) 1 it (.ref D) env)) := by rfl
section
variable {prog : Program} {w : World} {A : Around} {R : Result → Shared → Prop} {s : Shared} {kx vx t0 i0 t1 i1 : Expr} {scope : Scope} {pos : Pos} {it : Value} {D : Addr} {env : Env}
/-- the block's wish of an exception: none comes -/
abbrev NoxD (prog : Program) (w : World) (A : Around) (env : Env) (R : Result → Shared → Prop) : Value → Shared → Prop := notedBy (model prog w) A env fun e t => R (.error e) t
theorem dc2_loop0 (hs : ∀ x, foldedSetIterable i1 env x = pure x) (I : Nat → Shared → Prop)
    (turn : ∀ n s, I n s → wpAny (model prog w) A (pyNext it) (fun r sa => match r with
      | none => R (.ok .next) sa
      | some v => wpAny (model prog w) A (letOwnedTupleGo t0 it v) (fun _ sb => wpAny (model prog w) A (assign t0 env v) (fun _ sc =>
          wpAny (model prog w) A (eval i1 env) (fun x sd => wpAny (model prog w) A (pyIter x) (fun it1 se =>
              codeAny (model prog w) A (.compStart (dc2 kx vx t0 i0 t1 i1 scope pos) 1 it1 (.ref D) env) (fun r t => match r with
                | .ok _ => ∃ m, m < n ∧ I m t
                | .error _ => False) se) (NoxD prog w A env R) sd) (NoxD prog w A env R) sc) (NoxD prog w A env R) sb) (NoxD prog w A env R) sa) (NoxD prog w A env R) s)
    (n : Nat) (h : I n s) : codeAny (model prog w) A (.compLoop (dc2 kx vx t0 i0 t1 i1 scope pos) 0 it (.ref D) env) R s := by
  refine codeAny_loop rfl I (fun n s hI => ?_) n h
  show wpAny _ A ((compTurn (dc2 kx vx t0 i0 t1 i1 scope pos) 0 it (.ref D) env).onRaise (fun x => do noteFrame x env; theTreesLotGoes x)) _ _ s
  refine wpAny_noted ?_
  rw [dc2_outer]
  refine wpAny_bind (wpAny_standAt (wpAny_bind (wpAny_mono (turn n s hI) (fun r sa ha => ?_) fun _ _ z => z)))
  cases r with
  | none => exact wpAny_pure ha
  | some v =>
    refine wpAny_bind (wpAny_mono ha (fun _ sb hb => wpAny_bind (wpAny_mono hb (fun _ sc hc => ?_) fun _ _ z => z)) fun _ _ z => z)
    refine wpAny_bind (wpAny_mono hc (fun x sd hd => wpAny_bind (wpAny_standAt (wpAny_bind (wpAny_of_eq (hs x) (wpAny_bind (wpAny_holding (wpAny_mono hd (fun it1 se he => ?_) fun _ _ z => z))))))) fun _ _ z => z)
    refine wpAny_bind (wpAny_runOwn ?_)
    rw [Around.mark_none]
    refine codeAny_mono he fun r t hr => ?_
    cases r with
    | error e => exact hr.elim
    | ok f =>
      first
        | exact wpAny_pure ⟨rfl, hr⟩
        | exact wpAny_bind (wpAny_pure (wpAny_pure ⟨rfl, hr⟩))
theorem dc2_loop1 (I : Nat → Shared → Prop)
    (turn : ∀ n s, I n s → wpAny (model prog w) A (pyNext it) (fun r sa => match r with
      | none => R (.ok .next) sa
      | some v => wpAny (model prog w) A (letOwnedTupleGo t1 it v) (fun _ sb => wpAny (model prog w) A (assign t1 env v) (fun _ sc =>
          wpAny (model prog w) A (eval kx env) (fun x sd => wpAny (model prog w) A (eval vx env) (fun y se => wpAny (model prog w) A (dictSet D x y) (fun _ sf => ∃ m, m < n ∧ I m sf) (NoxD prog w A env R) se) (NoxD prog w A env R) sd) (NoxD prog w A env R) sc) (NoxD prog w A env R) sb) (NoxD prog w A env R) sa) (NoxD prog w A env R) s)
    (n : Nat) (h : I n s) : codeAny (model prog w) A (.compLoop (dc2 kx vx t0 i0 t1 i1 scope pos) 1 it (.ref D) env) R s := by
  refine codeAny_loop rfl I (fun n s hI => ?_) n h
  show wpAny _ A ((compTurn (dc2 kx vx t0 i0 t1 i1 scope pos) 1 it (.ref D) env).onRaise (fun x => do noteFrame x env; theTreesLotGoes x)) _ _ s
  refine wpAny_noted ?_
  rw [dc2_inner]
  refine wpAny_bind (wpAny_standAt (wpAny_bind (wpAny_mono (turn n s hI) (fun r sa ha => ?_) fun _ _ z => z)))
  cases r with
  | none => exact wpAny_pure ha
  | some v =>
    refine wpAny_bind (wpAny_mono ha (fun _ sb hb => wpAny_bind (wpAny_mono hb (fun _ sc hc => ?_) fun _ _ z => z)) fun _ _ z => z)
    exact wpAny_bind (wpAny_bind (wpAny_mono hc (fun kv sd hd => wpAny_bind (wpAny_holding (wpAny_mono hd (fun vv se he => wpAny_bind (wpAny_standAt (wpAny_holding (wpAny_mono he (fun _ sf hf => wpAny_pure ⟨rfl, hf⟩) fun _ _ z => z)))) fun _ _ z => z))) fun _ _ z => z))
theorem dc2_start1 (h0 : codeAny (model prog w) A (.compLoop (dc2 kx vx t0 i0 t1 i1 scope pos) 1 it (.ref D) env) R s)
    (h : wpAny (model prog w) A (pyIter it) (fun it2 t => codeAny (model prog w) A (.compLoop (dc2 kx vx t0 i0 t1 i1 scope pos) 1 it2 (.ref D) env) R t) (NoxD prog w A env R) s) :
    codeAny (model prog w) A (.compStart (dc2 kx vx t0 i0 t1 i1 scope pos) 1 it (.ref D) env) R s := by
  refine codeAny_of_tree ?_
  show wpAny _ _ ((compStart (dc2 kx vx t0 i0 t1 i1 scope pos) 1 it (.ref D) env).onRaise (fun x => do noteFrame x env; standAt theWindowsPlace)) _ _ s
  refine wpAny_notedAt ?_
  unfold compStart
  show wpAny _ _ (ask >>= _) _ _ s
  refine wpAny_bind (wpAny_askSetting (wpAny_ite ?_))
  split
  · first
      | exact wpAny_bind (wpAny_pure (wpAny_pure (And.intro rfl h0)))
      | exact wpAny_pure (And.intro rfl h0)
  · first
      | exact wpAny_bind (wpAny_rule (wpAny_bind (wpAny_standAt (wpAny_bind (wpAny_mono h (fun it2 t z => wpAny_pure (And.intro rfl z)) fun _ _ x => x)))))
      | (refine wpAny_bind (wpAny_rule ?_); show wpAny _ _ (standAt i1.pos >>= _) _ _ s; exact wpAny_bind (wpAny_standAt (wpAny_bind (wpAny_mono h (fun it2 t z => wpAny_pure (And.intro rfl z)) fun _ _ x => x))))
end
section
variable {X : Cx}
/-- the reading: a dict at D that grows -/
def tDc2 (wi : TI) (g : TG) (wi1 : TI) (g1 : TG) (tk tv : TE) (vs vs1 : List Nat) : TE := fun σ H Q => wi σ H fun J H1 => ∀ D, H1 D = none → ∃ W : Nat → Nat → Hp → Prop, (∃ m, W 0 m (upd H1 D (.dK []))) ∧ ∀ i m H, W i m H →
  (J.stop i H ∧ Q (.ref D) H) ∨ (J.go i H ∧ ∃ Nx : Hp → Prop, (∀ Hn, Nx Hn → ∃ mn, mn < m ∧ W (i + 1) mn Hn) ∧ ∀ x Hy, J.yld i H x Hy → g x (wipe σ vs) Hy fun σ2 H2 => wipe σ2 vs = wipe σ vs ∧
    wi1 σ2 H2 fun J1 H4 => ∃ W1 : Nat → Nat → Hp → Prop, (∃ m, W1 0 m H4) ∧ ∀ j k H, W1 j k H →
      (J1.stop j H ∧ Nx H) ∨ (J1.go j H ∧ ∃ Ny : Hp → Prop, (∀ Hn, Ny Hn → ∃ kn, kn < k ∧ W1 (j + 1) kn Hn) ∧ ∀ x Hy, J1.yld j H x Hy → g1 x (wipe σ2 vs1) Hy fun σ3 H5 => wipe σ3 vs1 = wipe σ2 vs1 ∧
        tk σ3 H5 fun y H6 => tv σ3 H6 fun z H7 => ∃ (kvs : List (Key × V)) (k : Key), y = kV k ∧ H7 D = some (.dK kvs) ∧ kvs.length < sizeLine ∧ Ny (upd H7 D (.dK (putK kvs k z)))))
theorem pe_dc2 {kx vx t0 i0 t1 i1 : Expr} {scope : Scope} {own : List (PySem.Str × Nat)} {vs1 : List Nat} {pos : Pos} {wi wi1 : TI} {g g1 : TG} {tk tv : TE} (hc : X.calm = true) (hN : X.N.Nodup) (hi : PI X t0 i0 wi) (ok : BlkOk X.N X.env.scope scope own) (hv : ∀ i ∈ vs1, i ∈ own.map (·.2))
    (hg : ∀ (s : Shared) (H : Hp) (C : Addr) (cl : List (PySem.Str × Addr)) (fp : List Addr), PG (X.blk s H scope (compEnvC scope cl C X.env) fp) t0 g)
    (hi1 : ∀ (s : Shared) (H : Hp) (C : Addr) (cl : List (PySem.Str × Addr)) (fp : List Addr), PI (X.blk s H scope (compEnvC scope cl C X.env) fp) t1 i1 wi1)
    (hg1 : ∀ (s : Shared) (H : Hp) (C : Addr) (cl : List (PySem.Str × Addr)) (fp : List Addr), PG (X.blk s H scope (compEnvC scope cl C X.env) fp) t1 g1)
    (hk : ∀ (s : Shared) (H : Hp) (C : Addr) (cl : List (PySem.Str × Addr)) (fp : List Addr), PE (X.blk s H scope (compEnvC scope cl C X.env) fp) kx tk)
    (he : ∀ (s : Shared) (H : Hp) (C : Addr) (cl : List (PySem.Str × Addr)) (fp : List Addr), PE (X.blk s H scope (compEnvC scope cl C X.env) fp) vx tv)
    (hs : ∀ x, foldedSetIterable i0 X.env x = pure x := by intro _; rfl) (hs1 : ∀ env x, foldedSetIterable i1 env x = pure x := by intro _ _; rfl) :
    PE X (.DictComp kx vx [⟨t0, i0, [], 0⟩, ⟨t1, i1, [], 0⟩] scope pos) (tDc2 wi g wi1 g1 tk tv (own.map (·.2)) vs1) := by
  refine ⟨fun pins s σ H Q I h => ?_⟩
  show wpAny _ _ (comprehension (dc2 kx vx t0 i0 t1 i1 scope pos) scope X.env (firstIterPos [⟨t0, i0, [], 0⟩, ⟨t1, i1, [], 0⟩] pos) newDict false (eval i0 X.env) none) _ _ s
  have hfree : ∀ y ∈ scope.names, y.2 = .free → ∃ c, X.env.cells.lookup y.1 = some c := fun y hy e => (ok.free y hy e).elim (fun k => I.ok.has _ (.inl k)) fun k => I.ok.has _ (.inr k)
  refine wpAny_comprehension_free (use := none) rfl hs (closure_ok hfree) ok.kind (fun y hy e => by rw [ok.uniq y hy, e]) (thn (hi.run pins s σ H _ I h) fun xv sa hx => thn hx fun itv sb h2 => ?_)
  obtain ⟨it, fp, tn, J, H2, e, I2, T, st2, f2, q⟩ := h2
  subst e
  refine wpAny_newObj_type (newEnv_comp ?_)
  generalize hD : sb.heap.objs.size = D
  have hDn : H2 D = none := I2.hok.fresh (Nat.le_of_eq hD)
  obtain ⟨W, ⟨m0, w0⟩, turn⟩ := q D hDn
  generalize h3 : ({ sb with heap := sb.heap.push { cls := .type "dict", data := .dict #[] } } : Shared) = sc
  generalize hH3 : upd H2 D (.dK []) = H3 at w0
  have hp3 : sc.heap = sb.heap.push { cls := .type "dict", data := .dict #[] } := by rw [← h3]
  have I3 : Inv X pins σ H3 sc := by
    rw [← h3, ← hH3]
    refine I2.laid (t' := sb.toks) (fun b o e => Heap.get?_push_of_some _ e) (Nat.le_of_eq hD) ?_
    rw [← hD]
    exact dk_empty sb.heap I2.big
  have f3 : ∀ b ∈ fp, FpOk X pins H3 b ∧ b < sc.heap.objs.size := fun b hb => by
    obtain ⟨o, e, _⟩ := T.obj _ _ st2 b hb
    have hlt : b < sb.heap.objs.size := Heap.lt_size e
    refine ⟨⟨?_, (f2 b hb).2⟩, by rw [hp3, Heap.size_push]; exact Nat.lt_succ_of_lt hlt⟩
    rw [← hH3, upd_ne (by rw [← hD]; exact Nat.ne_of_lt hlt)]
    exact (f2 b hb).1
  have I4 := block_start I3 ok hN f3
  have pg := hg sc H3 sc.heap.objs.size (cellsFrom (sc.heap.objs.size + 1) scope.names (cloFrom X.env.cells scope.names [])) fp
  have pk := hk sc H3 sc.heap.objs.size (cellsFrom (sc.heap.objs.size + 1) scope.names (cloFrom X.env.cells scope.names [])) fp
  have pe := he sc H3 sc.heap.objs.size (cellsFrom (sc.heap.objs.size + 1) scope.names (cloFrom X.env.cells scope.names [])) fp
  have pi1 := hi1 sc H3 sc.heap.objs.size (cellsFrom (sc.heap.objs.size + 1) scope.names (cloFrom X.env.cells scope.names [])) fp
  have pg1 := hg1 sc H3 sc.heap.objs.size (cellsFrom (sc.heap.objs.size + 1) scope.names (cloFrom X.env.cells scope.names [])) fp
  show codeAny _ _ (.compStart (dc2 kx vx t0 i0 t1 i1 scope pos) 0 (.ref it) (.ref D) (compEnvC scope (cellsFrom (sc.heap.objs.size + 1) scope.names (cloFrom X.env.cells scope.names [])) sc.heap.objs.size X.env)) (compPost (model X.prog X.w) X.A X.xe none (EP X pins σ Q) (.ref D) sc.heap.objs.size) { sc with heap := pushCells (sc.heap.push { cls := .type "dict", data := .dict #[] }) scope.names }
  generalize hce : compEnvC scope (cellsFrom (sc.heap.objs.size + 1) scope.names (cloFrom X.env.cells scope.names [])) sc.heap.objs.size X.env = ce at I4 pg pk pe pi1 pg1 ⊢
  have cL : ce.locals = sc.heap.objs.size := by subst hce; rfl
  generalize h4 : ({ sc with heap := pushCells (sc.heap.push { cls := .type "dict", data := .dict #[] }) scope.names } : Shared) = sd at I4 ⊢
  have st4 : tn 0 sd.heap := T.keep _ _ _ st2 fun b _ o e => by
    rw [← h4]
    exact pushCells_keeps _ _ _ _ (Heap.get?_push_of_some _ (by rw [hp3]; exact Heap.get?_push_of_some _ e))
  generalize hY : X.blk sc H3 scope ce fp = Y at I4 pg pk pe pi1 pg1
  have yex : Y.ex = fp := by rw [← hY]
  have stat : ∀ {σa : L2.St} {Ha : Hp} {t : Shared} {ps : List (Addr × Obj)}, Inv Y ps σa Ha t → (∀ b ∈ fp, Ha b = none) → ∀ b ∈ fp, FpOk Y [] Ha b := fun {σa Ha t ps} Ia hn b hb => by
    have hb' : b ∈ Y.ex := by rw [yex]; exact hb
    exact ⟨hn b hb, (Ia.ok.exf b hb').1, Ia.ok.exfs b hb', .inl hb', fun x c e => (Ia.ok.exf b hb').2 x c e, fun p hp => by rw [← hY] at hp; cases hp⟩
  have yP : Y.prog = X.prog := by rw [← hY]
  have yw : Y.w = X.w := by rw [← hY]
  have yK : Y.K = X.K := by rw [← hY]
  have yA : Y.A = X.A := by rw [← hY]
  have yc : Y.calm = true := by rw [← hY]; exact hc
  have yx : Y.xe = fun _ _ => False := by rw [← hY]
  have main : ∀ (R : Result → Shared → Prop), (∀ t Ha, Inv Y [] (wipe σ (own.map (·.2))) Ha t → Q (.ref D) Ha → R (.ok .next) t) →
      codeAny (model X.prog X.w) X.A (.compLoop (dc2 kx vx t0 i0 t1 i1 scope pos) 0 (.ref it) (.ref D) ce) R sd := by
    intro R hend
    subst hY
    refine dc2_loop0 (hs1 ce) (fun n t => ∃ i Ha, Inv (X.blk sc H3 scope ce fp) [] (wipe σ (own.map (·.2))) Ha t ∧ tn i t.heap ∧ (∀ b ∈ fp, Ha b = none) ∧ W i n Ha) ?_ m0 ⟨0, H3, I4, st4, fun b hb => (f3 b hb).1.1, w0⟩
    rintro n ta ⟨i, H5, I5, st5, n5, w5⟩
    rcases turn i n H5 w5 with ⟨stop, qq⟩ | ⟨go, Nx, hNx, step⟩
    · refine thnF (T.done (X.blk sc H3 scope ce fp) rfl rfl rfl hc i [] ta _ H5 (fun _ _ => False) I5 (stat I5 n5) st5 stop) fun r tb ⟨hr, I6⟩ => ?_
      subst hr
      exact hend tb H5 I6 qq
    refine thnF (T.item (X.blk sc H3 scope ce fp) rfl rfl rfl hc i [] ta _ H5 (fun _ _ => False) I5 (stat I5 n5) st5 go) fun r tb ⟨u, hr, h6⟩ => ?_
    subst hr
    refine thnF h6 fun _ tc ⟨x, H7, I7, r7, y7, st7, n7⟩ => ?_
    refine thnF (pg.run _ tc _ H7 x u _ (I7.pinned (stat I7 n7) (T.obj _ _ st7)) r7 (step x H7 y7)) fun _ td ⟨σ8, H8, I8, hw8, q8⟩ => ?_
    -- back to the outer loop
    have fin : ∀ {σ9 : L2.St} {t : Shared} {Ha : Hp}, Inv (X.blk sc H3 scope ce fp) ([] ++ pinsAt fp tc.heap) σ9 Ha t → (wipe σ (own.map (·.2))).length = σ9.length → (∀ (j : Nat) v, (wipe σ (own.map (·.2)))[j]? = some (some v) → σ9[j]? = some (some v)) → Nx Ha →
        ∃ m, m < n ∧ ∃ i Ha, Inv (X.blk sc H3 scope ce fp) [] (wipe σ (own.map (·.2))) Ha t ∧ tn i t.heap ∧ (∀ b ∈ fp, Ha b = none) ∧ W i m Ha := fun {σ9 t Ha} Ia hl hk nx => by
      obtain ⟨mn, hm, wn⟩ := hNx Ha nx
      have pin : ∀ b ∈ fp, ∀ o, tc.heap.get? b = some o → t.heap.get? b = some o ∧ Ha b = none := fun b hb o e => by
        have z := Ia.pin (b, o) (List.mem_append_right _ (List.mem_append_right _ (mem_pinsAt hb e)))
        exact ⟨z.1, z.2.1⟩
      refine ⟨mn, hm, i + 1, Ha, (Ia.unpinned (pins := [])).weak hl hk, T.keep _ _ _ st7 fun b hb o e => (pin b hb o e).1, fun b hb => ?_, wn⟩
      obtain ⟨o, e, _⟩ := T.obj _ _ st7 b hb
      exact (pin b hb o e).2
    have hl8 : (wipe σ (own.map (·.2))).length = σ8.length := by rw [← hw8, wipe_length]
    have hk9 : ∀ (j : Nat) v, (wipe σ (own.map (·.2)))[j]? = some (some v) → (wipe σ8 vs1)[j]? = some (some v) := fun j v e => by
      rw [← hw8] at e
      obtain ⟨e1, e2⟩ := wipe_some e
      rw [wipe_out fun z => e2 (hv j z)]
      exact e1
    refine thnF (pi1.run _ td σ8 H8 _ I8 q8) fun xv te' hx => thnF hx fun itv tf h11 => ?_
    obtain ⟨it1, fp1, tn1, J1, H11, e1, I11, T1, st11, f11, W1, ⟨m1, w1⟩, turn1⟩ := h11
    subst e1
    have stat1 : ∀ {Ha : Hp}, (∀ b ∈ fp1, Ha b = none) → ∀ b ∈ fp1, FpOk (X.blk sc H3 scope ce fp) ([] ++ pinsAt fp tc.heap) Ha b := fun hn b hb => ⟨hn b hb, (f11 b hb).2⟩
    have inner : codeAny (model X.prog X.w) X.A (.compLoop (dc2 kx vx t0 i0 t1 i1 scope pos) 1 (.ref it1) (.ref D) ce)
        (fun r t => match r with
          | .ok _ => ∃ m, m < n ∧ ∃ i Ha, Inv (X.blk sc H3 scope ce fp) [] (wipe σ (own.map (·.2))) Ha t ∧ tn i t.heap ∧ (∀ b ∈ fp, Ha b = none) ∧ W i m Ha
          | .error _ => False) tf := by
      refine dc2_loop1 (fun k t => ∃ j Ha, Inv (X.blk sc H3 scope ce fp) ([] ++ pinsAt fp tc.heap) (wipe σ8 vs1) Ha t ∧ tn1 j t.heap ∧ (∀ b ∈ fp1, Ha b = none) ∧ W1 j k Ha) ?_ m1 ⟨0, H11, I11.weak (wipe_length _ _) (fun j v e => (wipe_some e).1), st11, fun b hb => (f11 b hb).1, w1⟩
      rintro k tg ⟨j, H12, I12, st12, n12, w12⟩
      rcases turn1 j k H12 w12 with ⟨stop1, nx1⟩ | ⟨go1, Ny, hNy, step1⟩
      · refine thnF (T1.done (X.blk sc H3 scope ce fp) rfl rfl rfl hc j _ tg (wipe σ8 vs1) H12 (fun _ _ => False) I12 (stat1 n12) st12 stop1) fun r th ⟨hr, I13⟩ => ?_
        subst hr
        exact fin I13 (hl8.trans (wipe_length σ8 vs1).symm) hk9 nx1
      refine thnF (T1.item (X.blk sc H3 scope ce fp) rfl rfl rfl hc j _ tg (wipe σ8 vs1) H12 (fun _ _ => False) I12 (stat1 n12) st12 go1) fun r th ⟨u1, hr, h13⟩ => ?_
      subst hr
      refine thnF h13 fun _ ti ⟨x1, H14, I14, r14, y14, st14, n14⟩ => ?_
      refine thnF (pg1.run _ ti (wipe σ8 vs1) H14 x1 u1 _ (I14.pinned (stat1 n14) (T1.obj _ _ st14)) r14 (step1 x1 H14 y14)) fun _ tj ⟨σ15, H15, I15, hw15, q15⟩ => ?_
      refine thnF (pk.run _ tj σ15 H15 _ I15 q15) fun z tk' ⟨yv, H16, I16, r16, q16⟩ => ?_
      refine thnF (pe.run _ tk' σ15 H16 _ I16 q16) fun z2 tk2 ⟨zv, H17, I17, r17, kvs, kk, ey, hD17, hz17, nx⟩ => ?_
      subst ey
      refine d_dictSet (X := X.blk sc H3 scope ce fp) I17 hD17 hz17 r16 r17 fun tl I18 => ?_
      obtain ⟨kn, hk, wn⟩ := hNy _ nx
      have pin : ∀ b ∈ fp1, ∀ o, ti.heap.get? b = some o → tl.heap.get? b = some o ∧ (upd H17 D (.dK (putK kvs kk zv))) b = none := fun b hb o e => by
        have z := I18.pin (b, o) (List.mem_append_right _ (List.mem_append_right _ (mem_pinsAt hb e)))
        exact ⟨z.1, z.2.1⟩
      refine ⟨kn, hk, j + 1, _, I18.unpinned.weak (by rw [← hw15, wipe_length]) (fun j v e => by rw [← hw15] at e; exact (wipe_some e).1), T1.keep _ _ _ st14 fun b hb o e => (pin b hb o e).1, fun b hb => ?_, wn⟩
      obtain ⟨o, e, _⟩ := T1.obj _ _ st14 b hb
      exact (pin b hb o e).2
    exact dc2_start1 inner (T1.self X.A 0 _ _ _ st11 inner)
  have loop := main (compPost (model X.prog X.w) X.A X.xe none (EP X pins σ Q) (.ref D) sc.heap.objs.size) fun t Ha Ia qq => by
    subst hY
    have I7 : Inv X pins σ Ha t := I3.call' (ch := fp) Ia.os Ia.base Ia.hok Ia.bare fun b hb => ⟨(f3 b hb).1.2.2.2.1, (f3 b hb).1.2.1, (f3 b hb).1.2.2.2.2.1, (f3 b hb).1.2.2.2.2.2⟩
    have nC : Ha sc.heap.objs.size = none := by
      have z : Ha ce.locals = none := Ia.free
      rw [cL] at z
      exact z
    obtain ⟨mm, hn, _⟩ := Ia.loc
    have hn : t.heap.Ns ce.locals mm := hn
    rw [cL] at hn
    refine ⟨mm, hn, fun h'' sb' => ?_⟩
    obtain ⟨f0, f1, f2, f4, f5, f6⟩ := I3.fpOk (Nat.le_refl _) nC
    exact ⟨.ref D, Ha, I7.turned (t' := t.toks) (fun b o hb e => (sb'.2 b hb).trans e) f0 f1 f4 f5 f6, rfl, qq⟩
  exact codeAny_compStart_dict loop (T.self X.A 0 _ _ _ st4 loop)
end
end MA

set_option maxRecDepth 100000
set_option maxHeartbeats 2000000
namespace MA
open PySem PySem.Spec PyProof.Rows L2
section
variable {K : PySem.W.Frag} {σ : L2.St} {B H : Hp} {tl te : TE} {tt : TT} {D : Ends} {tz : TS}
/-- row = [x for x in t if x != k], the row ours -/
theorem q_rowLc {xs : List Int} {k : Int} {i j l : Nat} {vs : List Nat} (hl : Ev K tl σ B H (.tuple (xs.map PyData.int))) (e : Ex B H) (hz : xs.length ≤ 100000) (hk : ∀ x, ((wipe σ vs).set j (some x))[l]? = some (some (.int k)))
    (q : ∀ p H', Le [] B H B H' → H p = none → B p = none → H' p = some (.lst ((xs.filter fun x => !decide (x = k)).map V.int)) → tz D (σ.set i (some (.ref p))) H')
    (hj : ∀ x, ((wipe σ vs).set j (some x))[j]? = some (some x) := by intro _; rfl) (hw : ∀ x, wipe ((wipe σ vs).set j (some x)) vs = wipe σ vs := by intro _; rfl) :
    tSeq (tAsg (tLc (iTup K tl) (gName j) (tTest (tOp (rNeA K) (tVar j) (tVar l))) (tVar j) vs) (gName i)) tz D σ H := by
  refine hl B H (Le.refl e) _ fun u B1 H1 l1 hu => ?_
  cases hu with
  | tup hs hq =>
    rename_i a ys
    cases ofInts hq
    have hsl : 100000 < sizeLine := by rw [sizeLine_eq]; decide
    refine ⟨a, rfl, ⟨_, Evl.ex_t l1.h hs⟩, fun D' hD => ?_⟩
    have hb := none_of l1.h hD
    have hD0 : H D' = none := l1.back hD
    refine lc_tup (xs := xs.map V.int) (fun i Hi => ∃ Bi, Le [] B1 H1 Bi Hi ∧ Bi D' = none ∧ Hi D' = some (.lst (((xs.take i).filter fun x => !decide (x = k)).map V.int))) ⟨B1, Le.made l1.h hD, hb, upd_same⟩ (fun i Hi _ p => ?_) (fun i x Hi hi p => ⟨hw x, ?_⟩) (fun Hi p => ?_)
    · obtain ⟨Bi, le, _⟩ := p
      exact Evl.ex_t (le.b.trans le.h) hs
    · obtain ⟨Bi, le, hbi, hh⟩ := p
      rw [List.getElem?_map] at hi
      cases hx : xs[i]? with
      | none => rw [hx] at hi; cases hi
      | some n =>
        rw [hx] at hi
        cases hi
        have htk : xs.take (i + 1) = xs.take i ++ [n] := by rw [List.take_add_one, hx]; rfl
        have hlen : ((xs.take i).filter fun x => !decide (x = k)).length ≤ 100000 := Nat.le_trans (List.length_filter_le _ _) (by rw [List.length_take]; omega)
        refine (et_test (ev_op (K := K) (σ := (wipe σ vs).set j (some (.int n))) (B := Bi) (H := Hi) (ev_var (hj _) (.int n)) (ev_var (hk _) (.int k)) rv_neI)) Bi Hi (Le.refl le.h) _ fun B2 H2 l2 => ?_
        have h2 := l2.k D' _ (by simp) hh
        have b2 := l2.own hh hbi
        by_cases z : n = k
        · rw [if_neg (by simp [z])]
          refine ⟨B2, le.trans l2, b2, ?_⟩
          rw [h2, htk, List.filter_append]
          simp [z]
        · rw [if_pos (by simp [z])]
          refine ⟨.int n, hj _, _, h2, by rw [List.length_map]; omega, B2, ?_, b2, ?_⟩
          · exact ((le.any.trans l2.any).trans (Le.put (M := [D']) l2.h b2 (by simp))).local hD
          · rw [upd_same, htk, List.filter_append]
            simp [z]
    · obtain ⟨Bi, le, hbi, hh⟩ := p
      rw [List.length_map, List.take_length] at hh
      -- the world as it was: what was learnt on the way is let go
      have ll := l1.trans le
      refine q D' Hi ⟨Ex.refl B, fun x o h => ll.h x o (ll.b x o h), ll.k, ll.t, fun x h1 h2 => absurd h1 h2⟩ hD0 (none_of e hD0) hh
end
/-! dicts that are ours: int keys, rows -/
section
variable {K : PySem.W.Frag} {σ : L2.St} {B H : Hp} {td ty : TE} {p : Addr}
theorem kvs_val {ns : List Int} {ys : List V} {t : Nat} {n : Int} {y : V} (hn : ns.Nodup) (h1 : ns[t]? = some n) (h2 : ys[t]? = some y) : valV (kvsOf ns ys) (.inl n : Key) = some y := by
  induction ns generalizing ys t with
  | nil => simp at h1
  | cons a ns ih =>
    cases ys with
    | nil => simp at h2
    | cons b ys =>
      cases t with
      | zero =>
        simp at h1 h2
        subst h1 h2
        exact valV_pos rfl
      | succ t =>
        have h1' : ns[t]? = some n := by simpa using h1
        have hne : a ≠ n := fun z => by
          subst z
          exact (List.nodup_cons.mp hn).1 (List.mem_of_getElem? h1')
        have : valV (kvsOf (a :: ns) (b :: ys)) (.inl n : Key) = valV (kvsOf ns ys) (.inl n) := by
          unfold valV
          show ((((Sum.inl a : Key), b) :: kvsOf ns ys).find? _).map _ = _
          rw [List.find?_cons]
          simp [hne]
        rw [this]
        exact ih (List.nodup_cons.mp hn).2 h1' (by simpa using h2)
theorem kvs_put {ns : List Int} {ys : List V} {t : Nat} {n : Int} {y : V} (hn : ns.Nodup) (hl : ns.length = ys.length) (h1 : ns[t]? = some n) : putK (kvsOf ns ys) (.inl n : Key) y = kvsOf ns (ys.set t y) := by
  have ht : t < ns.length := (List.getElem?_eq_some_iff.mp h1).1
  have key : ∀ {ns : List Int} {ys : List V} {t : Nat}, ns.Nodup → ns.length = ys.length → ns[t]? = some n → (kvsOf ns ys).map (fun kv => if kv.1 = (Sum.inl n : Key) then (kv.1, y) else kv) = kvsOf ns (ys.set t y) := by
    intro ns
    induction ns with
    | nil => intro ys t _ _ h; simp at h
    | cons a ns ih =>
      intro ys t hn hl h
      cases ys with
      | nil => simp at hl
      | cons b ys =>
        have hl' : ns.length = ys.length := by simpa using hl
        cases t with
        | zero =>
          simp at h
          subst h
          have rest : (kvsOf ns ys).map (fun kv => if kv.1 = (Sum.inl a : Key) then (kv.1, y) else kv) = kvsOf ns ys := by
            rw [List.map_congr_left (g := id) fun kv hkv => ?_, List.map_id]
            obtain ⟨⟨x, z⟩, hxz, rfl⟩ := List.mem_map.mp hkv
            have hx := (List.of_mem_zip hxz).1
            have : x ≠ a := fun e => (List.nodup_cons.mp hn).1 (e ▸ hx)
            simp [this]
          show (if (Sum.inl a : Key) = Sum.inl a then ((Sum.inl a : Key), y) else (Sum.inl a, b)) :: (kvsOf ns ys).map _ = _
          rw [if_pos rfl, rest]
          rfl
        | succ t =>
          have h' : ns[t]? = some n := by simpa using h
          have hne : a ≠ n := fun z => by
            subst z
            exact (List.nodup_cons.mp hn).1 (List.mem_of_getElem? h')
          show (if (Sum.inl a : Key) = Sum.inl n then ((Sum.inl a : Key), y) else (Sum.inl a, b)) :: (kvsOf ns ys).map _ = _
          rw [if_neg (fun e => hne (Sum.inl.inj e)), ih (List.nodup_cons.mp hn).2 hl' h']
          rfl
  unfold putK
  rw [if_pos ?_, key hn hl h1]
  rw [List.any_eq_true]
  have hy : ys[t]? = some ys[t] := List.getElem?_eq_getElem (by omega)
  have hn' : ns[t]'ht = n := (List.getElem?_eq_some_iff.mp h1).2
  refine ⟨(.inl n, ys[t]), List.mem_map.mpr ⟨(n, ys[t]), ?_, rfl⟩, by simp⟩
  rw [← hn']
  exact List.mem_iff_getElem.mpr ⟨t, by rw [List.length_zip]; omega, by rw [List.getElem_zip]⟩
/-- d[k] of a dict of ours -/
theorem ev_dgetOwn {ns : List Int} {ys : List V} {t i j : Nat} {n : Int} {y : V} {d : PyData} (hi : σ[i]? = some (some (.ref p))) (hj : σ[j]? = some (some (.int n))) (hp : H p = some (.dK (kvsOf ns ys))) (hn : ns.Nodup) (h1 : ns[t]? = some n) (h2 : ys[t]? = some y) (hd : Dq K B y d) : Ev K (tDGet (tVar i) (tVar j)) σ B H d := fun B1 H1 l Q q => by
  have g := DGet.k (k := (.inl n : Key)) (l.k p _ (by simp) hp)
  rw [kvs_val hn h1 h2] at g
  exact ⟨.ref p, hi, .int n, hj, p, y, rfl, g, q y B1 H1 (Le.refl l.h) (hd.mono l.b)⟩
end
theorem merge_new : ∀ {ns : List Int} {ys : List V} {acc : List (Key × V)}, ns.Nodup → (∀ n ∈ ns, (acc.any fun kv => decide (kv.1 = (Sum.inl n : Key))) = false) → ns.length = ys.length → mergeK acc (kvsOf ns ys) = acc ++ kvsOf ns ys
  | [], [], acc, _, _, _ => (List.append_nil _).symm
  | n :: ns, y :: ys, acc, hn, ha, hl => by
    show mergeK (putK acc (Sum.inl n) y) (kvsOf ns ys) = _
    have e : putK acc (Sum.inl n : Key) y = acc ++ [(Sum.inl n, y)] := by
      unfold putK
      rw [ha n (List.mem_cons_self ..), if_neg (by decide)]
    rw [e, merge_new (List.nodup_cons.mp hn).2 (fun m hm => ?_) (by simpa using hl), List.append_assoc]
    · rfl
    · rw [List.any_append, ha m (List.mem_cons_of_mem _ hm)]
      have : n ≠ m := fun z => (List.nodup_cons.mp hn).1 (z ▸ hm)
      simp [this]
  | [], _ :: _, _, _, _, h => by simp at h
  | _ :: _, [], _, _, _, h => by simp at h
theorem pairs_of {K : PySem.W.Frag} {B : Hp} {F : Int → PyData} : ∀ {ns : List Int} {xs : List V}, DqAll K B xs (ns.map fun n => .tuple [.int n, F n]) → ∃ ps ys, xs = ps.map V.ref ∧ ns.length = ys.length ∧ DqAll K B ys (ns.map F) ∧ Paired (fun p kv => SqT K B p [kV kv.1, kv.2]) ps (kvsOf ns ys)
  | [], _, h => by
    cases h
    exact ⟨[], [], rfl, rfl, .nil, .nil⟩
  | n :: ns, _, h => by
    cases h with
    | cons h q =>
      obtain ⟨ps, ys, e1, e2, e3, e4⟩ := pairs_of q
      cases h with
      | tup hs hq =>
        obtain ⟨x, y, e5, hx, hy⟩ := dq2 hq
        subst e5
        cases hx
        exact ⟨_ :: ps, y :: ys, by rw [e1]; rfl, by simp [e2], .cons hy e3, .cons hs e4⟩
theorem flatMap_filter {m : Int → List Int} {i : Int} (h : m i = []) : ∀ R : List Int, (R.filter fun x => !decide (x = i)).flatMap m = R.flatMap m
  | [] => rfl
  | a :: R => by
    by_cases z : a = i
    · subst z
      rw [List.filter_cons, if_neg (by simp), List.flatMap_cons, h, List.nil_append, flatMap_filter h R]
    · rw [List.filter_cons, if_pos (by simp [z]), List.flatMap_cons, List.flatMap_cons, flatMap_filter h R]
/-- a block under a command -/
theorem blk_step {b : Bool} {i j : Int} {L : List Int} (hj : L.count j ≤ 1) (hne : i ≠ j) :
    (if j ∈ (L.filter fun x => !decide (x = i)) then (L.filter fun x => !decide (x = i)).take ((L.filter fun x => !decide (x = i)).idxOf j + (if b then 1 else 0)) ++ [i] ++ (L.filter fun x => !decide (x = i)).drop ((L.filter fun x => !decide (x = i)).idxOf j + (if b then 1 else 0)) else (L.filter fun x => !decide (x = i))) = L.flatMap (cmdMap b i j) := by
  have m0 : cmdMap b i j i = [] := by unfold cmdMap; rw [if_pos rfl]
  have hi : i ∉ L.filter fun x => !decide (x = i) := fun m => by simp at m
  have hc : (L.filter fun x => !decide (x = i)).count j ≤ 1 := Nat.le_trans (List.Sublist.count_le _ List.filter_sublist) hj
  rw [← flatMap_filter m0 L]
  generalize (L.filter fun x => !decide (x = i)) = R at hi hc
  have self : ∀ {C : List Int}, i ∉ C → j ∉ C → C.flatMap (cmdMap b i j) = C := fun h1 h2 => flatMap_self fun a ha => by
    unfold cmdMap
    rw [if_neg (fun z : a = i => h1 (z ▸ ha)), if_neg (fun z : a = j => h2 (z ▸ ha))]
  by_cases z : j ∈ R
  · rw [if_pos z]
    have h1 : R.count j = 1 := by have := List.one_le_count_iff.mpr z; omega
    obtain ⟨A, B, e, a1, a2, a3⟩ := split_at h1
    have hA : i ∉ A := fun m => hi (by rw [e]; exact List.mem_append_left _ m)
    have hB : i ∉ B := fun m => hi (by rw [e]; exact List.mem_append_right _ (List.mem_cons_of_mem _ m))
    have mj : cmdMap b i j j = if b then [j, i] else [i, j] := by unfold cmdMap; rw [if_neg (Ne.symm hne), if_pos rfl]
    rw [a3, e, List.flatMap_append, List.flatMap_cons, self hA a1, self hB a2, mj]
    cases b with
    | true =>
      have t1 : (A ++ j :: B).take (A.length + 1) = A ++ [j] := by rw [List.take_append, List.take_of_length_le (by omega), Nat.add_sub_cancel_left]; rfl
      have t2 : (A ++ j :: B).drop (A.length + 1) = B := by rw [List.drop_append, List.drop_of_length_le (by omega), Nat.add_sub_cancel_left]; rfl
      simp only [if_true, t1, t2, List.append_assoc, List.cons_append, List.nil_append]
    | false =>
      have t1 : (A ++ j :: B).take (A.length + 0) = A := by rw [Nat.add_zero, List.take_left']; rfl
      have t2 : (A ++ j :: B).drop (A.length + 0) = j :: B := by rw [Nat.add_zero, List.drop_left']; rfl
      simp only [Bool.false_eq_true, if_false, t1, t2, List.append_assoc, List.cons_append, List.nil_append]
  · rw [if_neg z, self hi z]
section
variable {K : PySem.W.Frag} {σ : L2.St} {B H : Hp} {te : TE} {d : PyData} {D : Ends} {tz : TS}
theorem q_cb1 {r : List V → Hp → VK → Prop} {i : Nat} (h : Ev K te σ B H d) (e : Ex B H) (q : ∀ v B' H', Le [] B H B' H' → Dq K B' v d → r [v] H' fun u H2 => tz D (σ.set i (some u)) H2) : tSeq (tAsg (tCB r (tCons te tNil)) (gName i)) tz D σ H := h B H (Le.refl e) _ fun v B' H' l hv => q v B' H' l hv
theorem q_idxAdd {r : Addr} {R : List Int} {b x : Int} {i j l : Nat} (hi : σ[i]? = some (some (.ref r))) (hj : σ[j]? = some (some (.int b))) (hp : H r = some (.lst (R.map V.int))) (hk : b ∈ R) (hx : Ev K te σ B H (.int x)) (e : Ex B H)
    (q : ∀ B' H', Le [] B H B' H' → tz D (σ.set l (some (.int ((R.idxOf b : Nat) + x)))) H') : tSeq (tAsg (tOp (rAddA K) (tBM K "list" (rIndex K) (tVar i) (tCons (tVar j) tNil)) te) (gName l)) tz D σ H := by
  refine ⟨.ref r, hi, .inl ⟨rfl, _, .inl (.inl hp)⟩, .int b, hj, ?_⟩
  show rIndex K (.ref r) [.int b] H fun v H1 => te σ H1 fun w H2 => rAddA K v w H2 fun u H3 => tz D (σ.set l (some u)) H3
  refine idx_own hp hk ?_
  refine hx B H (Le.refl e) _ fun w B' H' l' hw => ?_
  cases hw
  exact .inl ⟨_, _, rfl, rfl, q B' H' l'⟩
end
theorem DqAll.set {K : PySem.W.Frag} {B : Hp} {v : V} {d : PyData} (h : Dq K B v d) : ∀ {ys : List V} {ds : List PyData} (t : Nat), DqAll K B ys ds → DqAll K B (ys.set t v) (ds.set t d)
  | _, _, _, .nil => .nil
  | _, _, 0, .cons _ q => .cons h q
  | _, _, t + 1, .cons a q => .cons a (DqAll.set h t q)
theorem mix_set {F G : Int → PyData} : ∀ {ns : List Int} {t : Nat} {n : Int}, ns[t]? = some n → ((ns.take t).map F ++ (ns.drop t).map G).set t (F n) = (ns.take (t + 1)).map F ++ (ns.drop (t + 1)).map G
  | [], t, n, h => by simp at h
  | a :: ns, 0, n, h => by
    simp at h
    subst h
    rfl
  | a :: ns, t + 1, n, h => by
    have h' : ns[t]? = some n := by simpa using h
    show (F a :: ((ns.take t).map F ++ (ns.drop t).map G)).set (t + 1) (F n) = F a :: ((ns.take (t + 1)).map F ++ (ns.drop (t + 1)).map G)
    rw [List.set_cons_succ, mix_set h']
theorem mix_get {F G : Int → PyData} : ∀ {ns : List Int} {t : Nat} {n : Int}, ns[t]? = some n → ((ns.take t).map F ++ (ns.drop t).map G)[t]? = some (G n)
  | [], t, n, h => by simp at h
  | a :: ns, 0, n, h => by
    simp at h
    subst h
    rfl
  | a :: ns, t + 1, n, h => by
    have h' : ns[t]? = some n := by simpa using h
    show (F a :: ((ns.take t).map F ++ (ns.drop t).map G))[t + 1]? = some (G n)
    rw [List.getElem?_cons_succ, mix_get h']
end MA

set_option maxRecDepth 100000
set_option maxHeartbeats 2000000
namespace MA
open PySem PySem.Spec PyProof.Rows L2
/-! ## a dict is locked while it is walked -/
section
variable {K : PySem.W.Frag} {σ : L2.St} {B H : Hp} {t : TE} {x : PyData} {d : Addr} {kvs : List (Key × V)}
def backB (B0 B : Hp) (d : Addr) : Hp := fun a => if a = d then B0 d else B a
structure Back (B1 H1 : Hp) (d : Addr) (kvs : List (Key × V)) (B2 H2 : Hp) : Prop where
  fz : ∃ od, H2 d = some (.frz od (.dK kvs))
  le : Le [] B1 H1 (backB B1 B2 d) (upd H2 d (.dK kvs))
  ex : Ex B2 (backB B1 B2 d)
theorem lock_le {od : Obj} {B1 H1 : Hp} (e : Ex B1 H1) (hd : H1 d = some (.dK kvs)) : Ex (dropB B1 d) (upd H1 d (.frz od (.dK kvs))) := fun a o h => by
  unfold dropB at h
  split at h
  · cases h
  · rename_i z
    rw [upd_ne z]
    exact e a o h
theorem lock_back {od : Obj} {B1 H1 B2 H2 : Hp} (e : Ex B1 H1) (hd : H1 d = some (.dK kvs)) (l : Le [] (dropB B1 d) (upd H1 d (.frz od (.dK kvs))) B2 H2) : H2 d = some (.frz od (.dK kvs)) ∧ Le [] B1 H1 (backB B1 B2 d) (upd H2 d (.dK kvs)) ∧ Ex B2 (backB B1 B2 d) := by
  have b2 : B2 d = none := by
    cases z : B2 d with
    | none => rfl
    | some o =>
      have := l.n d (if_pos rfl) (by rw [z]; simp)
      rw [upd_same] at this
      cases this
  have dn : ∀ a, a ≠ d → dropB B1 d a = B1 a := fun a h => if_neg h
  have bn : ∀ a, a ≠ d → backB B1 B2 d a = B2 a := fun a h => if_neg h
  have bd : backB B1 B2 d d = B1 d := if_pos rfl
  have one : ∀ o, B1 d = some o → o = .dK kvs := fun o h => by
    have := e d o h
    rw [hd] at this
    exact (Option.some.inj this).symm
  refine ⟨l.k d _ (by simp) upd_same, ⟨fun a o h => ?_, fun a o h => ?_, fun a o _ h => ?_, fun a h => ?_, fun a h1 h2 => ?_⟩, fun a o h => ?_⟩
  · by_cases z : a = d
    · subst z; rw [bd]; exact h
    · rw [bn a z]; exact l.b a o (by rw [dn a z]; exact h)
  · by_cases z : a = d
    · subst z
      rw [bd] at h
      rw [one o h, upd_same]
    · rw [bn a z] at h
      rw [upd_ne z]; exact l.h a o h
  · by_cases z : a = d
    · subst z
      rw [hd] at h
      rw [upd_same]; exact h
    · rw [upd_ne z]; exact l.k a o (by simp) (by rw [upd_ne z]; exact h)
  · by_cases z : a = d
    · subst z; rw [upd_same]; simp
    · rw [upd_ne z]; exact l.t a (by rw [upd_ne z]; exact h)
  · by_cases z : a = d
    · subst z; rw [bd] at h2; exact absurd h1 h2
    · rw [bn a z] at h2
      have := l.n a (by rw [dn a z]; exact h1) h2
      rw [upd_ne z] at this
      exact this
  · by_cases z : a = d
    · subst z; rw [b2] at h; cases h
    · rw [bn a z]; exact h
theorem evN_lock (hd : H d = some (.dK kvs)) (h : ∀ od B1 H1, Le [] B H B1 H1 → H1 d = some (.dK kvs) → EvN K t σ (dropB B1 d) (upd H1 d (.frz od (.dK kvs))) x) : EvN K (tLockE t) σ B H x := fun B1 H1 l Q q => by
  have hd1 := l.k d _ (by simp) hd
  refine ⟨d, .dK kvs, hd1, trivial, fun od => ?_⟩
  refine h od B1 H1 l hd1 _ _ (Le.refl (lock_le l.h hd1)) _ fun v B2 H2 l2 hn hv => ?_
  obtain ⟨z1, z2, z3⟩ := lock_back l.h hd1 l2
  refine ⟨z1, q v _ _ z2 ?_ (hv.mono z3)⟩
  obtain ⟨a, ea, ha⟩ := hn
  refine ⟨a, ea, ?_⟩
  by_cases z : a = d
  · subst z; rw [upd_same] at ha; cases ha
  · rw [upd_ne z] at ha; exact ha
theorem ev_lock (hd : H d = some (.dK kvs)) (h : ∀ od B1 H1, Le [] B H B1 H1 → H1 d = some (.dK kvs) → Ev K t σ (dropB B1 d) (upd H1 d (.frz od (.dK kvs))) x) : Ev K (tLockE t) σ B H x := fun B1 H1 l Q q => by
  have hd1 := l.k d _ (by simp) hd
  refine ⟨d, .dK kvs, hd1, trivial, fun od => ?_⟩
  refine h od B1 H1 l hd1 _ _ (Le.refl (lock_le l.h hd1)) _ fun v B2 H2 l2 hv => ?_
  obtain ⟨z1, z2, z3⟩ := lock_back l.h hd1 l2
  exact ⟨z1, q v _ _ z2 (hv.mono z3)⟩
end
/-! ## dicts from ints to ints -/
def dictI (ps : List (Int × Int)) : PyData := .dict (ps.map fun p => (.int p.1, .int p.2))
def kvI (ps : List (Int × Int)) : List (Key × V) := ps.map fun p => (.inl p.1, .int p.2)
theorem kvI_zip : ∀ ps : List (Int × Int), zipK (kvI ps) (ps.map fun p => PyData.int p.2) = ps.map fun p => (PyData.int p.1, PyData.int p.2)
  | [] => rfl
  | p :: ps => by
    show (PyData.int p.1, PyData.int p.2) :: zipK (kvI ps) _ = _
    rw [kvI_zip ps]
    rfl
theorem kvI_q {K : PySem.W.Frag} {B : Hp} : ∀ ps : List (Int × Int), DqAll K B ((kvI ps).map (·.2)) (ps.map fun p => PyData.int p.2)
  | [] => .nil
  | p :: ps => .cons (.int _) (kvI_q ps)
theorem dq_dictI {K : PySem.W.Frag} {B : Hp} {a : Addr} {ps : List (Int × Int)} (h : B a = some (.dK (kvI ps))) : Dq K B (.ref a) (dictI ps) := by
  have z := Dq.dct (K := K) h (kvI_q ps)
  rw [kvI_zip] at z
  exact z
theorem kvI_put {ps : List (Int × Int)} {k x : Int} (h : k ∉ ps.map (·.1)) : putK (kvI ps) (.inl k : Key) (.int x) = kvI (ps ++ [(k, x)]) := by
  unfold putK
  rw [if_neg ?_]
  · unfold kvI; rw [List.map_append]; rfl
  · rw [Bool.not_eq_true, List.any_eq_false]
    intro kv hkv
    unfold kvI at hkv
    obtain ⟨p, hp, rfl⟩ := List.mem_map.mp hkv
    simp only [decide_eq_true_eq]
    intro e
    exact h (List.mem_map.mpr ⟨p, hp, Sum.inl.inj e⟩)
/-- a dict from ints to ints, as one by a function -/
theorem dictI_eff : ∀ {ps : List (Int × Int)}, (ps.map (·.1)).Nodup → dictI ps = effM (ps.map (·.1)) fun k => .int ((ps.lookup k).getD 0) := by
  intro ps hn
  unfold dictI effM
  congr 1
  rw [List.map_map]
  apply List.map_congr_left
  intro p hp
  have : ps.lookup p.1 = some p.2 := by
    induction ps with
    | nil => cases hp
    | cons a ps ih =>
      rw [List.map_cons, List.nodup_cons] at hn
      rcases List.mem_cons.mp hp with e | e
      · subst e
        exact List.lookup_cons_self
      · have : (p.1 == a.1) = false := by
          simp only [beq_eq_false_iff_ne]
          exact fun z => hn.1 (z ▸ List.mem_map.mpr ⟨p, e, rfl⟩)
        rw [show a = (a.1, a.2) from rfl, List.lookup_cons, this]
        exact ih hn.2 e
  show (PyData.int p.1, PyData.int p.2) = (PyData.int p.1, PyData.int ((ps.lookup p.1).getD 0))
  rw [this]
  rfl
def srcP (ns : List Int) (m : Int → List Int) : List (Int × Int) := ns.flatMap fun n => (m n).map fun i => (i, n)
theorem srcP_fst (ns : List Int) (m : Int → List Int) : (srcP ns m).map (·.1) = ns.flatMap m := by
  unfold srcP
  rw [List.map_flatMap]
  congr 1
  funext n
  rw [List.map_map]
  exact List.map_id _
def blkD : PyData → List Int
  | .tuple ds => ds.map itemI
  | _ => []
/-- the dict of the sources of a dict of blocks -/
def srcD : PyData → PyData
  | .dict kvs => .dict (kvs.flatMap fun p => (blkD p.2).map fun i => (.int i, p.1))
  | _ => .none
theorem blkD_ints (ns : List Int) : blkD (.tuple (ns.map PyData.int)) = ns := by
  show (ns.map PyData.int).map itemI = ns
  rw [List.map_map]
  exact List.map_id _
theorem srcD_eff (ns : List Int) (m : Int → List Int) : srcD (effM ns fun n => .tuple ((m n).map PyData.int)) = dictI (srcP ns m) := by
  show PyData.dict ((ns.map fun n => (PyData.int n, PyData.tuple ((m n).map PyData.int))).flatMap fun p => (blkD p.2).map fun i => (PyData.int i, p.1)) = PyData.dict ((ns.flatMap fun n => (m n).map fun i => (i, n)).map fun p => (PyData.int p.1, PyData.int p.2))
  congr 1
  rw [List.flatMap_map, List.map_flatMap]
  congr 1
  funext n
  rw [blkD_ints, List.map_map]
  rfl
theorem lookup_app {i : Int} : ∀ (p q : List (Int × Int)), (p ++ q).lookup i = (p.lookup i).or (q.lookup i)
  | [], q => by simp
  | (a, b) :: p, q => by
    rw [List.cons_append, List.lookup_cons, List.lookup_cons, lookup_app p q]
    cases i == a <;> rfl
theorem lookup_same {i n : Int} : ∀ l : List Int, (l.map fun k => (k, n)).lookup i = if i ∈ l then some n else none
  | [] => rfl
  | a :: l => by
    rw [List.map_cons, List.lookup_cons, lookup_same l]
    by_cases z : i = a
    · subst z; simp
    · have : (i == a) = false := by simp [z]
      simp only [this, List.mem_cons, z, false_or]
theorem srcP_lookup (m : Int → List Int) (i : Int) : ∀ ns : List Int, (srcP ns m).lookup i = ns.find? fun n => decide (i ∈ m n)
  | [] => rfl
  | n :: ns => by
    show ((m n).map (fun k => (k, n)) ++ srcP ns m).lookup i = _
    rw [lookup_app, lookup_same, srcP_lookup m i ns, List.find?_cons]
    by_cases z : i ∈ m n
    · simp [z]
    · simp [z]
theorem dropB_ne {B : Hp} {a d : Addr} (h : a ≠ d) : dropB B d a = B a := if_neg h
section
variable {K : PySem.W.Frag} {σ : L2.St} {B H : Hp}
/-- {i: s for s, b in d.items() for i in b} -/
theorem evN_srcs {ns : List Int} {m : Int → List Int} {v : V} {i js jb ji : Nat} {vs vs1 : List Nat} (hi : σ[i]? = some (some v)) (hv : Dq K B v (effM ns fun n => .tuple ((m n).map PyData.int))) (e : Ex B H) (hnd : (ns.flatMap m).Nodup) (hln : (ns.flatMap m).length ≤ 1000)
    (hw : ∀ x y, wipe (((wipe σ vs).set js (some x)).set jb (some y)) vs = wipe σ vs := by intro _ _; rfl)
    (hb : ∀ x y, (((wipe σ vs).set js (some x)).set jb (some y))[jb]? = some (some y) := by intro _ _; rfl)
    (hw1 : ∀ x y z, wipe ((wipe (((wipe σ vs).set js (some x)).set jb (some y)) vs1).set ji (some z)) vs1 = wipe (((wipe σ vs).set js (some x)).set jb (some y)) vs1 := by intro _ _ _; rfl)
    (g1 : ∀ x y z, ((wipe (((wipe σ vs).set js (some x)).set jb (some y)) vs1).set ji (some z))[ji]? = some (some z) := by intro _ _ _; rfl)
    (g2 : ∀ x y z, ((wipe (((wipe σ vs).set js (some x)).set jb (some y)) vs1).set ji (some z))[js]? = some (some x) := by intro _ _ _; rfl) :
    EvN K (tLockE (tDc2 (iItems (tVar i)) (gTup K 2 (gCons (gName js) (gCons (gName jb) gNil))) (iTup K (tVar jb)) (gName ji) (tVar ji) (tVar js) vs vs1)) σ B H (dictI (srcP ns m)) := by
  unfold effM at hv
  generalize hE : ns.map (fun n => (PyData.int n, PyData.tuple ((m n).map PyData.int))) = L at hv
  cases hv with
  | dct h hq =>
    rename_i d kvs ds
    obtain ⟨z1, z2⟩ := zip_parts (by have := hq.length; rwa [List.length_map] at this) hE.symm
    subst z2
    refine evN_lock (e d _ h) fun od B1 H1 l1 hd1 => ?_
    have hb1 := l1.b d _ h
    have hq1 := DqAll.off hb1 (hq.mono l1.b)
    have e1 := lock_le (od := od) l1.h hd1
    generalize hBl : dropB B1 d = Bl at hq1 e1 ⊢
    generalize hHl : upd H1 d (.frz od (.dK kvs)) = Hl at e1 ⊢
    have hdl : Hl d = some (.frz od (.dK kvs)) := by rw [← hHl]; exact upd_same
    clear hHl hBl
    intro B2 H2 l2 Q q
    have hd2 := l2.k d _ (by simp) hdl
    refine ⟨.ref d, hi, d, od, kvs, rfl, hd2, fun D hD => ?_⟩
    have W := walk_items (d := d) (o := od) (kvs := kvs)
    have kl : kvs.length = ns.length := by have := congrArg List.length z1; rwa [List.length_map, List.length_map] at this
    have hDb := none_of l2.h hD
    have hsl : 1000 < sizeLine := by rw [sizeLine_eq]; decide
    refine ⟨fun t k Hi => k = ns.length - t ∧ t ≤ ns.length ∧ ∃ Bi, Le [] B2 H2 Bi Hi ∧ Bi D = none ∧ Hi D = some (.dK (kvI (srcP (ns.take t) m))), ⟨_, rfl, Nat.zero_le _, B2, Le.made l2.h hD, hDb, upd_same⟩, ?_⟩
    rintro t k Hi ⟨rfl, ht, Bi, le, hbi, hh⟩
    have G : Hi d = some (.frz od (.dK kvs)) := le.k d _ (by simp) hd2
    by_cases hlt : t < ns.length
    · have en : ns[t]? = some ns[t] := List.getElem?_eq_getElem hlt
      have htk : ns.take (t + 1) = ns.take t ++ [ns[t]] := by rw [List.take_add_one, en]; rfl
      have hsplit : ns.flatMap m = (ns.take t).flatMap m ++ (m ns[t] ++ (ns.drop (t + 1)).flatMap m) := by
        have : ns = ns.take t ++ (ns[t] :: ns.drop (t + 1)) := by rw [List.getElem_cons_drop, List.take_append_drop]
        conv => lhs; rw [this]
        rw [List.flatMap_append, List.flatMap_cons]
      refine .inr ⟨W.goes t Hi (by omega) G, fun Hn => ∃ Bi, Le [] B2 H2 Bi Hn ∧ Bi D = none ∧ Hn D = some (.dK (kvI (srcP (ns.take (t + 1)) m))), fun Hn p => ⟨ns.length - (t + 1), by omega, rfl, hlt, p⟩, fun x Hy y => ?_⟩
      obtain ⟨T, x1, x2, rfl, hT, rfl, f1, f2⟩ := W.yields t Hi x Hy (by omega) G y
      -- the entry
      obtain ⟨kk, yv, ekv⟩ : ∃ kk yv, kvs[t]? = some (kk, yv) := ⟨_, _, List.getElem?_eq_getElem (by omega)⟩
      have ekk : kk = .inl ns[t] := by
        have := congrArg (fun l => l[t]?) z1
        simp only [List.getElem?_map, ekv, en, Option.map_some] at this
        exact Option.some.inj this
      dsimp only at f1 f2
      rw [ekv] at f1 f2
      subst ekk
      cases f1
      cases f2
      obtain ⟨dd, ed, hy⟩ := (hq1.mono (l2.trans le).b).get (i := t) (v := yv) (by rw [List.getElem?_map, ekv]; rfl)
      rw [List.getElem?_map, en] at ed
      cases ed
      have ln := Le.new (M := []) (o := .tup [.int ns[t], yv]) le.h hT
      have hTD : T ≠ D := fun z => by rw [z, hh] at hT; cases hT
      have hh2 : (upd Hi T (.tup [.int ns[t], yv])) D = some (.dK (kvI (srcP (ns.take t) m))) := by rw [upd_ne (Ne.symm hTD)]; exact hh
      have hb2 : (upd Bi T (.tup [.int ns[t], yv])) D = none := by rw [upd_ne (Ne.symm hTD)]; exact hbi
      have hy2 := hy.mono ln.b
      refine ⟨T, [.int ns[t], yv], rfl, .inl (.inl upd_same), rfl, .int ns[t], [yv], rfl, yv, [], rfl, rfl, hw _ _, ?_⟩
      cases hy2 with
      | tup hs hqt =>
        rename_i a ys
        cases ofInts hqt
        refine ⟨.ref a, hb _ _, a, rfl, ⟨_, Evl.ex_t ln.h hs⟩, fun j kk Hj => kk = (m ns[t]).length - j ∧ j ≤ (m ns[t]).length ∧ ∃ Bj, Le [D] (upd Bi T (.tup [.int ns[t], .ref a])) (upd Hi T (.tup [.int ns[t], .ref a])) Bj Hj ∧ Bj D = none ∧ Hj D = some (.dK (kvI (srcP (ns.take t) m ++ ((m ns[t]).take j).map fun i => (i, ns[t])))), ⟨_, rfl, Nat.zero_le _, _, Le.refl ln.h, hb2, by rw [List.take_zero, List.map_nil, List.append_nil]; exact hh2⟩, ?_⟩
        rintro j kk Hj ⟨rfl, hj, Bj, lj, bj, hj2⟩
        have hsq : SqT K Hj a ((m ns[t]).map V.int) := Evl.ex_t (lj.b.trans lj.h) hs
        by_cases hlt2 : j < (m ns[t]).length
        · have hz : (m ns[t])[j]? = some (m ns[t])[j] := List.getElem?_eq_getElem hlt2
          have hzv : ((m ns[t]).map V.int)[j]? = some (.int (m ns[t])[j]) := by rw [List.getElem?_map, hz]; rfl
          have htk2 : (m ns[t]).take (j + 1) = (m ns[t]).take j ++ [(m ns[t])[j]] := by rw [List.take_add_one, hz]; rfl
          refine .inr ⟨⟨_, _, hsq, hzv⟩, fun Hn => ∃ Bj, Le [D] (upd Bi T (.tup [.int ns[t], .ref a])) (upd Hi T (.tup [.int ns[t], .ref a])) Bj Hn ∧ Bj D = none ∧ Hn D = some (.dK (kvI (srcP (ns.take t) m ++ ((m ns[t]).take (j + 1)).map fun i => (i, ns[t])))), fun Hn p' => ⟨(m ns[t]).length - (j + 1), by omega, rfl, hlt2, p'⟩, fun x2 Hy2 y2 => ?_⟩
          obtain ⟨rfl, y2⟩ := y2
          have ex3 : x2 = .int (m ns[t])[j] := Option.some.inj ((y2 _ hsq).symm.trans hzv)
          subst ex3
          have keys : (srcP (ns.take t) m ++ ((m ns[t]).take j).map fun i => (i, ns[t])).map (·.1) = (ns.take t).flatMap m ++ (m ns[t]).take j := by
            rw [List.map_append, srcP_fst, List.map_map]
            congr 1
            exact List.map_id _
          have fresh : (m ns[t])[j] ∉ (srcP (ns.take t) m ++ ((m ns[t]).take j).map fun i => (i, ns[t])).map (·.1) := by
            rw [keys]
            have hsp2 : ns.flatMap m = ((ns.take t).flatMap m ++ (m ns[t]).take j) ++ ((m ns[t])[j] :: ((m ns[t]).drop (j + 1) ++ (ns.drop (t + 1)).flatMap m)) := by
              rw [hsplit]
              conv => lhs; rw [show m ns[t] = (m ns[t]).take j ++ ((m ns[t])[j] :: (m ns[t]).drop (j + 1)) by rw [List.getElem_cons_drop, List.take_append_drop]]
              simp only [List.append_assoc, List.cons_append]
            rw [hsp2] at hnd
            intro hm
            exact (List.nodup_append.mp hnd).2.2 _ hm _ (List.mem_cons_self ..) rfl
          refine ⟨hw1 _ _ _, .int (m ns[t])[j], g1 _ _ _, .int ns[t], g2 _ _ _, _, .inl (m ns[t])[j], rfl, hj2, ?_, Bj, lj.trans (Le.put lj.h bj (by simp)), bj, ?_⟩
          · have h1 : (kvI (srcP (ns.take t) m ++ ((m ns[t]).take j).map fun i => (i, ns[t]))).length ≤ 1000 := by
              unfold kvI
              have := congrArg List.length keys
              rw [List.length_map] at this
              rw [List.length_map, this, List.length_append, List.length_take]
              rw [hsplit, List.length_append, List.length_append] at hln
              omega
            omega
          · rw [upd_same, kvI_put fresh, htk2, List.map_append, List.append_assoc]
            rfl
        · refine .inl ⟨⟨_, hsq, by rw [List.length_map]; omega⟩, ?_⟩
          have ej : j = (m ns[t]).length := by omega
          subst ej
          refine ⟨Bj, ((le.any.trans ln.any).trans lj).local hD, bj, ?_⟩
          rw [hj2, List.take_length, htk]
          congr 3
          unfold srcP
          rw [List.flatMap_append, List.flatMap_cons, List.flatMap_nil, List.append_nil]
    · have et : t = ns.length := by omega
      subst et
      refine .inl ⟨by rw [← kl]; exact W.stops Hi G, ?_⟩
      rw [List.take_length] at hh
      have lg := le.give hD hbi hh
      exact q (.ref D) _ Hi lg ⟨D, rfl, hD⟩ (dq_dictI upd_same)
end
end MA

set_option maxRecDepth 100000
set_option maxHeartbeats 2000000
namespace PySem
open Sem (wp)
section
variable {prog : Program} {w : World} {A : Around} {R : Result → Shared → Prop} {I l : Addr} {items : Array Value}
abbrev lstO (xs : List Value) (k : Nat) : Obj := { cls := .type "list", data := .seq xs.toArray k }
theorem sumL_loop (hh : A.handled = none) (hIl : l ≠ I) (h0 : Heap) (X T : Nat → List Value) (hT : ∀ i, i < items.size → T (i + 1) = T i ++ X i) (hz : ∀ i, i ≤ items.size → (T i).length ≤ sizeLine)
    (hval : ∀ i v, items[i]? = some v → ∃ b k, v = .ref b ∧ b ≠ I ∧ h0.get? b = some (lstO (X i) k)) (S : Addr) (hSI : S ≠ I) (hSl : S ≠ l) (hS0 : h0.get? S = none) :
    ∀ (k i : Nat) (s : Shared) (c ck cc : Nat), items.size - i = k → i ≤ items.size → (s.heap.IsListIter I l i ∧ s.heap.IsList l items) → (∀ b o, b ≠ I → h0.get? b = some o → s.heap.get? b = some o) → s.heap.get? S = some { cls := .type "list", dict := none, data := .seq #[.ref c] cc, slots := #[] } →
    s.heap.get? c = some (lstO (T i) ck) → (i = 0 ∨ h0.get? c = none) → c ≠ I → c ≠ S →
    (∀ h' tk c' k', (∀ b o, b ≠ I → h0.get? b = some o → h'.get? b = some o) → h'.get? c' = some (lstO (T items.size) k') → (items.size = 0 ∨ h0.get? c' = none) → R (.ok (.ret (.ref c'))) { s with heap := h', toks := tk }) →
    codeAny (model prog w) A (.builtin "sum.loop" ⟨[.ref I, .ref S, rawInt 2, rawInt 0], []⟩) R s := by
  have W := Walks.list (prog := prog) (w := w) (A := A.in1) hh I l hIl items
  have hSw : S ∉ [I] := by simp [hSI]
  have hSf : ∀ b ∈ [I, l], S ≠ b := by
    intro b hb
    simp only [List.mem_cons, List.mem_nil_iff, or_false] at hb
    rcases hb with rfl | rfl
    · exact hSI
    · exact hSl
  intro k
  induction k with
  | zero =>
    intro i s c ck cc hk hi hst hkp hS hc hc0 hcw hcS hR
    have hin : i = items.size := by omega
    subst hin
    refine codeAny_builtin F.entry_sum_loop ?_
    rw [Around.under_plainId F.plain_sum_loop _]
    show wpAny _ A.in1 (seqItems? (.ref S) >>= _) _ _ s
    refine wpAny_bind (wpAny_seqItems hS rfl ?_)
    show wpAny _ A.in1 (tryCatch (pyNext (.ref I)) _ >>= _) _ _ s
    refine wpAny_bind (wpAny_tryCatch (W.done s _ _ hst fun h' tk hk' => ?_))
    exact wpAny_pure (hR h' tk c ck (fun b o hb e => hk' b o (by simp [hb]) (hkp b o hb e)) (hk' c _ (by simp [hcw]) hc) hc0)
  | succ k ih =>
    intro i s c ck cc hk hi hst hkp hS hc hc0 hcw hcS hR
    have hlt : i < items.size := by omega
    refine codeAny_builtin F.entry_sum_loop ?_
    rw [Around.under_plainId F.plain_sum_loop _]
    show wpAny _ A.in1 (seqItems? (.ref S) >>= _) _ _ s
    refine wpAny_bind (wpAny_seqItems hS rfl ?_)
    show wpAny _ A.in1 (tryCatch (pyNext (.ref I)) _ >>= _) _ _ s
    refine wpAny_bind (wpAny_tryCatch (W.item i s _ _ hlt hst fun v h' tk hP hst' hk' => ?_))
    obtain ⟨b, bk, rfl, hbw, hb0⟩ := hval i v hP
    have hS' := hk' S _ hSw hS
    have hc' := hk' c _ (by simp [hcw]) hc
    have hb' := hk' b _ (by simp [hbw]) (hkp b _ hbw hb0)
    have hkp' : ∀ b o, b ≠ I → h0.get? b = some o → h'.get? b = some o := fun b o hb e => hk' b o (by simp [hb]) (hkp b o hb e)
    show wpAny _ A.in1 ((holding [Value.ref b] (binaryOp .Add (.ref c) (.ref b))).attempt >>= _) _ _ _
    refine wpAny_bind (wpAny_attempt (wpAny_holding (PySem.P.add_list hc' hb' ?_ (by rw [List.size_toArray, List.size_toArray, ← List.length_append, ← hT i hlt]; exact hz _ hlt))))
    have eo : ({ cls := .type "list", data := .seq ((T i).toArray ++ (X i).toArray) } : Obj) = lstO (T (i + 1)) 0 := by rw [hT i hlt]; simp [lstO]
    rw [eo]
    have hNn : h'.get? h'.objs.size = none := Heap.get?_none_of_le (Nat.le_refl _)
    have hN1 : (h'.push (lstO (T (i + 1)) 0)).get? h'.objs.size = some (lstO (T (i + 1)) 0) := Heap.get?_push_size _ rfl
    have hp1 : ∀ b o, h'.get? b = some o → (h'.push (lstO (T (i + 1)) 0)).get? b = some o := fun b o e => Heap.get?_push_of_some _ e
    show wpAny _ A.in1 (updateSeq S (fun _ => #[.ref h'.objs.size]) >>= _) _ _ { s with heap := h'.push (lstO (T (i + 1)) 0), toks := tk }
    generalize h'.objs.size = N at hNn hN1
    generalize h'.push (lstO (T (i + 1)) 0) = h1 at hN1 hp1
    have hNS : N ≠ S := fun z => by rw [z, hS'] at hNn; cases hNn
    have hNI : N ≠ I := fun z => by
      obtain ⟨⟨o, e, _⟩, _⟩ := hst'
      rw [← z, hNn] at e
      cases e
    have hN0 : h0.get? N = none := by
      cases z : h0.get? N with
      | none => rfl
      | some o =>
        have := hkp' N o hNI z
        rw [hNn] at this
        cases this
    have hS1 := hp1 S _ hS'
    refine wpAny_bind ?_
    refine wpAny_updateSeq hS1 rfl ?_
    have hS2 := Heap.get?_update_self (Obj.mapSeq fun _ => #[Value.ref N]) hS1 rfl
    refine wpAny_bind (wpAny_letGo ?_)
    refine wpAny_bind ?_
    refine wpAny_updateSeq hS2 rfl (wpAny_pure ⟨plainId_quiet F.plain_sum_loop _, ?_⟩)
    have two : ∀ b o, b ≠ S → h1.get? b = some o → ((h1.update S (Obj.mapSeq fun _ => #[Value.ref N])).update S (Obj.mapSeq fun _ => #[Value.ref N])).get? b = some o := fun b o hb e =>
      (Heap.get?_update_other _ _ (Ne.symm hb)).trans ((Heap.get?_update_other _ _ (Ne.symm hb)).trans e)
    refine ih (i + 1) _ N 0 _ (by omega) hlt (W.frame _ _ _ hst' fun b hb o e => two b o (Ne.symm (hSf b hb)) (hp1 b o e)) (fun b o hb e => two b o (fun z => by rw [z, hS0] at e; cases e) (hp1 b o (hkp' b o hb e))) (Heap.get?_update_self _ hS2 rfl) (two N _ hNS hN1) (.inr hN0) hNI hNS fun h'' tk'' c'' k'' hk'' hc'' hn'' => hR h'' tk'' c'' k'' hk'' hc'' hn''
end
section
variable {prog : Program} {w : World} {A : Around} {E : Value → Shared → Prop} {s : Shared} {l c0 : Addr} {items : Array Value}
namespace F
theorem args_sum2 (a b : Value) : argsOk "sum" ⟨[a, b], []⟩ := by unfold argsOk; kernel_rfl
end F
theorem call_sumL {ck : Nat} {Q : Value → Shared → Prop} (hh : A.handled = none) (hl : s.heap.IsList l items) (X T : Nat → List Value) (hc : s.heap.get? c0 = some (lstO (T 0) ck)) (hT : ∀ i, i < items.size → T (i + 1) = T i ++ X i) (hz : ∀ i, i ≤ items.size → (T i).length ≤ sizeLine)
    (hval : ∀ i v, items[i]? = some v → ∃ b k, v = .ref b ∧ s.heap.get? b = some (lstO (X i) k)) (hpos : 0 < items.size)
    (h : ∀ h' tk c' k', (∀ b o, s.heap.get? b = some o → h'.get? b = some o) → s.heap.get? c' = none → h'.get? c' = some (lstO (T items.size) k') → Q (.ref c') { s with heap := h', toks := tk }) :
    wpAny (model prog w) A (call (.builtin "sum") [.ref l, .ref c0]) Q E s := by
  refine call_function_tree F.kind_sum F.plain_sum F.entry_sum (F.args_sum2 _ _) ?_
  unfold Builtin.«sum»
  simp only [List.length_cons, List.length_nil]
  rw [if_neg (by decide)]
  refine wpAny_bind (wpAny_of_eq (show Builtin.Builtins.bindParams "sum" ["start"] 0 { pos := [Value.ref c0] } = pure [some (.ref c0)] from rfl) ?_)
  have hlt : l < s.heap.objs.size := by obtain ⟨_, e, _⟩ := hl; exact Heap.lt_size e
  refine wpAny_bind (wpAny_pyIter_list hl ?_)
  generalize hI : s.heap.objs.size = I at hlt ⊢
  have hIn : s.heap.get? I = none := Heap.get?_none_of_le (by rw [hI]; exact Nat.le_refl _)
  have hk0 : ∀ b o, s.heap.get? b = some o → (s.heap.push { cls := .type "list_iterator", data := .fields #[.ref l, .int 0 0] }).get? b = some o := fun b o e => Heap.get?_push_of_some _ e
  have hIter : (s.heap.push { cls := .type "list_iterator", data := .fields #[.ref l, .int 0 0] }).IsListIter I l 0 := ⟨_, by rw [← hI]; exact Heap.get?_push_size _ rfl, rfl, rfl⟩
  have hl1 := hl.push { cls := .type "list_iterator", data := .fields #[.ref l, .int 0 0] }
  have hsz1 : (s.heap.push { cls := .type "list_iterator", data := .fields #[.ref l, .int 0 0] }).objs.size = I + 1 := by rw [Heap.size_push, hI]
  have hold : ∀ b, (s.heap.push { cls := .type "list_iterator", data := .fields #[.ref l, .int 0 0] }).get? b = none → s.heap.get? b = none := fun b e => by
    cases z : s.heap.get? b with
    | none => rfl
    | some o => rw [hk0 b o z] at e; cases e
  generalize s.heap.push { cls := .type "list_iterator", data := .fields #[.ref l, .int 0 0] } = h1 at hk0 hIter hl1 hsz1 hold
  have hc1 := hk0 c0 _ hc
  refine wpAny_bind (wpAny_pure ?_)
  simp only [List.forIn_cons, List.forIn_nil]
  have tl : (⟨h1, s.gens, s.drawn, s.toks, s.os⟩ : Shared).TypeIs (.ref c0) "list" := Heap.IsList.typeIs ⟨_, hc1, rfl, _, rfl⟩
  refine wpAny_bind (wpAny_bind (wpAny_bind (wpAny_isInstance (T := "list") (b := false) tl F.sub_list_str ?_)))
  simp only [Bool.false_eq_true, if_false]
  refine wpAny_pure (wpAny_bind (wpAny_bind (wpAny_isInstance (T := "list") (b := false) tl F.sub_list_bytes ?_)))
  simp only [Bool.false_eq_true, if_false]
  refine wpAny_pure (wpAny_bind (wpAny_bind (wpAny_isInstance (T := "list") (b := false) tl F.sub_list_bytearray ?_)))
  simp only [Bool.false_eq_true, if_false]
  refine wpAny_pure (wpAny_pure ?_)
  refine wpAny_bind (wpAny_newObj_type ?_)
  have hSn : h1.get? h1.objs.size = none := Heap.get?_none_of_le (Nat.le_refl _)
  have hSI : h1.objs.size ≠ I := by rw [hsz1]; omega
  have hSl : h1.objs.size ≠ l := fun z => Nat.lt_asymm hlt (by rw [← z, hsz1]; exact Nat.lt_succ_self I)
  refine wpAny_pure ⟨plainId_quiet F.plain_sum_loop _, ?_⟩
  have hcI : c0 ≠ I := fun z => by rw [z, hIn] at hc; cases hc
  have hcS : c0 ≠ h1.objs.size := fun z => by rw [z, hSn] at hc1; cases hc1
  refine sumL_loop hh (Nat.ne_of_lt hlt) h1 X T hT hz (fun i v hv => ?_) h1.objs.size hSI hSl hSn items.size 0 _ c0 ck _ rfl (Nat.zero_le _) ⟨hIter.at fun o e => Heap.get?_push_of_some _ e, hl1.push _⟩ (fun b o _ e => Heap.get?_push_of_some _ e) (Heap.get?_push_size _ rfl) (Heap.get?_push_of_some _ hc1) (.inl rfl) hcI hcS fun h' tk c' k' hk hc' hn => ?_
  · obtain ⟨b, k, e, hb⟩ := hval i v hv
    refine ⟨b, k, e, ?_, hk0 b _ hb⟩
    intro z
    rw [z, hIn] at hb
    cases hb
  · refine h h' tk c' k' (fun b o e => hk b o (fun z => by rw [z, hIn] at e; cases e) (hk0 b o e)) ?_ hc'
    rcases hn with z | z
    · omega
    · exact hold c' z
end
end PySem
namespace MA
open PySem PySem.Spec PyProof.Rows L2
theorem _root_.L2.ObjOk.there {P : Program} {w : World} {H : Hp} {h : Heap} {a : Addr} {o : HO} (x : ObjOk P w H h a o) : ∃ u, h.get? a = some u := by
  induction o with
  | lst xs => obtain ⟨_, _, _, _, e⟩ := x; exact ⟨_, e⟩
  | tup xs => obtain ⟨_, _, _, ob, e, _⟩ := x; exact ⟨_, e⟩
  | dK kvs => obtain ⟨_, _, _, _, ob, es, ep, e, _⟩ := x; exact ⟨_, e⟩
  | dT kvs => obtain ⟨_, _, _, _, ob, es, ep, e, _⟩ := x; exact ⟨_, e⟩
  | set S n => obtain ⟨ob, es, ep, t, e, c⟩ := x; exact ⟨_, e⟩
  | ins C dx fs => obtain ⟨_, _, _, e, _⟩ := x; exact ⟨_, e⟩
  | own y => obtain ⟨ob, e⟩ := x; exact ⟨_, e⟩
  | xd fs => obtain ⟨_, ⟨od, es, ep, e, c⟩, _⟩ := x; exact ⟨_, e⟩
  | rng lo hi => obtain ⟨t, u, v, e⟩ := x; exact ⟨_, e⟩
  | frz ob u ih => obtain ⟨e, _⟩ := x; exact ⟨_, e⟩
  | tbl ps => exact ⟨_, (show h.get? a = some _ from x)⟩
  | met f y => exact ⟨_, (show h.get? a = some _ from x)⟩
  | ext φ => obtain ⟨_, ⟨_, e⟩, _⟩ := x; exact ⟨_, e⟩
/-- sum(parts, start): lists, one at least -/
def rSumL : List V → Hp → VK → Prop := fun vs H Q => ∃ (a c : Addr) (ps : List (Addr × List V)), vs = [V.ref a, V.ref c] ∧ H a = some (.lst (ps.map fun p => V.ref p.1)) ∧ H c = some (.lst []) ∧ (∀ p ∈ ps, H p.1 = some (.lst p.2)) ∧ ps ≠ [] ∧ (ps.flatMap (·.2)).length ≤ 100000 ∧
  ∀ p, H p = none → Q (.ref p) (upd H p (.lst (ps.flatMap (·.2))))
theorem cr_sumL {X : Cx} (hcalm : X.calm = true) : CallR X (.builtin "sum") rSumL := by
  intro pins s σ H vs us Q I r h
  obtain ⟨a, c, ps, rfl, ha, hc, hp, hne, hsz, q⟩ := h
  obtain ⟨u1, u2, rfl, r1, r2⟩ := vals2 r
  cases r1
  cases r2
  obtain ⟨z, its, n, rv, hl, e⟩ := I.lstM ha
  obtain ⟨zc, itc, nc, rvc, hlc, ec⟩ := I.lstM hc
  have hitc : itc = [] := List.length_eq_zero_iff.mp (by rw [← hlc]; rfl)
  subst hitc
  -- the contents of the parts
  have hparts : ∃ X : Nat → List Value, ∀ (i : Nat) (p : Addr × List V), ps[i]? = some p → Vals p.2 (X i) ∧ ∃ k, s.heap.get? p.1 = some (lstO (X i) k) := by
    have : ∀ i : Nat, ∃ x : List Value, ∀ p : Addr × List V, ps[i]? = some p → Vals p.2 x ∧ ∃ k, s.heap.get? p.1 = some (lstO x k) := fun i => by
      cases hi : ps[i]? with
      | none => exact ⟨[], fun p hp => by cases hp⟩
      | some p =>
        obtain ⟨_, ip, np, rp, _, ep⟩ := I.lstM (hp p (List.mem_of_getElem? hi))
        exact ⟨ip, fun p' hp' => by cases hp'; exact ⟨rp, np, ep⟩⟩
    exact ⟨fun i => (this i).choose, fun i => (this i).choose_spec⟩
  obtain ⟨X', hX⟩ := hparts
  have hlen : its.length = ps.length := by rw [← hl, List.length_map]
  have hTv : ∀ i, i ≤ ps.length → Vals ((ps.take i).flatMap (·.2)) ((List.range i).flatMap X') := by
    intro i
    induction i with
    | zero => intro _; exact .nil
    | succ i ih =>
      intro hi
      have hg : ps[i]? = some ps[i] := List.getElem?_eq_getElem (by omega)
      rw [List.take_add_one, hg, List.range_succ, List.flatMap_append, List.flatMap_append]
      simp only [Option.toList, List.flatMap_cons, List.flatMap_nil, List.append_nil]
      exact (ih (by omega)).append (hX i _ hg).1
  have hlen2 : ∀ i, i ≤ ps.length → ((ps.take i).flatMap (·.2)).length ≤ (ps.flatMap (·.2)).length := fun i _ => by
    conv => rhs; rw [← List.take_append_drop i ps, List.flatMap_append, List.length_append]
    omega
  have hsl : 100000 < sizeLine := by rw [sizeLine_eq]; decide
  refine call_sumL (I.ok.hd hcalm) ⟨_, e, rfl, _, rfl⟩ X' (fun i => (List.range i).flatMap X') ec (fun i _ => by rw [List.range_succ, List.flatMap_append]; simp) (fun i hi => ?_) (fun i v hv => ?_) ?_ fun h' tk c' k' hk hn hc' => ?_
  · rw [List.size_toArray, hlen] at hi
    rw [← (hTv i hi).length]
    have := hlen2 i hi
    omega
  · have hv' : its[i]? = some v := by simpa using hv
    have hi : i < ps.length := by
      have := (List.getElem?_eq_some_iff.mp hv').1
      omega
    have hg : ps[i]? = some ps[i] := List.getElem?_eq_getElem hi
    obtain ⟨u, hu, ru⟩ := rv.get (i := i) (x := V.ref ps[i].1) (by rw [List.getElem?_map, hg]; rfl)
    rw [hv'] at hu
    cases hu
    obtain ⟨_, k, ek⟩ := hX i _ hg
    exact ⟨_, k, ru, ek⟩
  · rw [List.size_toArray, hlen]
    cases ps with
    | nil => exact absurd rfl hne
    | cons _ _ => simp
  · rw [List.size_toArray, hlen] at hc'
    have hv := hTv ps.length (Nat.le_refl _)
    rw [List.take_length] at hv
    have hHn : H c' = none := by
      cases z : H c' with
      | none => rfl
      | some o =>
        obtain ⟨u, e⟩ := (I.hok c' o z).there
        rw [hn] at e
        cases e
    exact ⟨.ref c', upd H c' (.lst (ps.flatMap (·.2))), I.laidN (t' := tk) hk hn hHn (show ObjOk X.prog X.w _ _ _ (.lst (ps.flatMap (·.2))) from ⟨by omega, _, k', hv, hc'⟩), rfl, q _ hHn⟩
end MA

set_option maxRecDepth 100000
set_option maxHeartbeats 2000000
namespace MA
open PySem PySem.Spec PyProof.Rows L2
/-! ## repr of a dict of blocks -/
theorem kv_sh {k w : Nat} {F : Int → PyData} : ∀ {ns : List Int}, (∀ n ∈ ns, (0 ≤ n ∧ n < 60) ∧ Pl k w (F n)) → PyData.showableKv (ns.map fun n => (PyData.int n, F n)) = true
  | [], _ => by simp [PyData.showableKv]
  | n :: ns, h => by
    have h1 := h n (List.mem_cons_self ..)
    simp only [List.map_cons, PyData.showableKv, (pl_int h1.1.1 h1.1.2).1.sh, h1.2.1.sh, kv_sh fun x hx => h x (List.mem_cons_of_mem _ hx), Bool.and_self]
theorem kv_lf {k w : Nat} {F : Int → PyData} : ∀ {ns : List Int}, (∀ n ∈ ns, (0 ≤ n ∧ n < 60) ∧ Pl k w (F n)) → PyData.leavesShortKv 30 (ns.map fun n => (PyData.int n, F n)) = true
  | [], _ => by simp [PyData.leavesShortKv]
  | n :: ns, h => by
    have h1 := h n (List.mem_cons_self ..)
    simp only [List.map_cons, PyData.leavesShortKv, (pl_int h1.1.1 h1.1.2).1.lf, h1.2.1.lf, kv_lf fun x hx => h x (List.mem_cons_of_mem _ hx), Bool.and_self]
theorem kv_wt {k w : Nat} {F : Int → PyData} : ∀ {ns : List Int}, (∀ n ∈ ns, (0 ≤ n ∧ n < 60) ∧ Pl k w (F n)) → PyData.weightKv (ns.map fun n => (PyData.int n, F n)) ≤ ns.length * (w + 72)
  | [], _ => by simp [PyData.weightKv]
  | n :: ns, h => by
    have h1 := h n (List.mem_cons_self ..)
    have h2 := kv_wt fun x hx => h x (List.mem_cons_of_mem n hx)
    have h3 := (pl_int h1.1.1 h1.1.2).1.wt
    have h4 := h1.2.1.wt
    simp only [List.map_cons, PyData.weightKv, List.length_cons, Nat.add_mul, Nat.one_mul] at h2 ⊢
    omega
theorem kv_dp {k w : Nat} {F : Int → PyData} : ∀ {ns : List Int}, (∀ n ∈ ns, (0 ≤ n ∧ n < 60) ∧ Pl k w (F n)) → PyData.depthKv (ns.map fun n => (PyData.int n, F n)) ≤ k
  | [], _ => by simp [PyData.depthKv]
  | n :: ns, h => by
    have h1 := h n (List.mem_cons_self ..)
    have h2 := kv_dp fun x hx => h x (List.mem_cons_of_mem n hx)
    have h3 := (pl_int h1.1.1 h1.1.2).1.dp
    have h4 := h1.2.1.dp
    simp only [List.map_cons, PyData.depthKv]
    omega
theorem kv_nl {k w : Nat} {F : Int → PyData} : ∀ {ns : List Int}, (∀ n ∈ ns, (0 ≤ n ∧ n < 60) ∧ Pl k w (F n)) → noListKv (ns.map fun n => (PyData.int n, F n)) = true
  | [], _ => by simp [noListKv]
  | n :: ns, h => by
    have h1 := h n (List.mem_cons_self ..)
    simp only [List.map_cons, noListKv, (pl_int h1.1.1 h1.1.2).2.1, h1.2.2.1, kv_nl fun x hx => h x (List.mem_cons_of_mem _ hx), Bool.and_self]
theorem ov_eff {k w : Nat} {F : Int → PyData} {ns : List Int} (h : ∀ n ∈ ns, (0 ≤ n ∧ n < 60) ∧ Pl k w (F n)) (hl : ns.length ≤ 60) (hw : 60 * (w + 72) ≤ 400000) (hk : k ≤ 5) : Ov (effM ns F) := by
  refine ⟨⟨⟨?_, ?_, ?_, ?_⟩, .inr ?_⟩, by show 0 ≤ 1000; decide⟩
  · unfold effM; simp only [PyData.showable]; exact kv_sh h
  · unfold effM; simp only [PyData.leavesShort]; exact kv_lf h
  · unfold effM; simp only [PyData.weight]; exact Nat.le_trans (kv_wt h) (Nat.le_trans (Nat.mul_le_mul_right _ hl) hw)
  · unfold effM; simp only [PyData.depth]; have := kv_dp h; omega
  · unfold effM; simp only [noList]; exact kv_nl h
section
variable {K : PySem.W.Frag} {g : Addr} {σ : L2.St} {B H : Hp} {ta tb te : TE} {t u : TT} {D : Ends} {tu tw tz : TS} {R : PyData → Prop}
/-! ## tests with draws -/
theorem ebt_notB {k : Bool} (h : Eb K g te σ B H (· = .bool k)) : EbT g (tNot (tB te)) σ B H (· = !k) := fun B1 H1 l b Q q => h B1 H1 l b _ fun d v B2 H2 r l2 b2 hv => by
  subst r
  cases hv
  exact ⟨k, rfl, q (!k) B2 H2 rfl l2 b2⟩
theorem b_whenF (h : EbT g t σ B H (· = false)) (e : Ex B H) (b : Bag g B H) (q : ∀ B' H', Le [g] B H B' H' → Bag g B' H' → tz D σ H') : tSeq (tIfS t tu tNext) tz D σ H :=
  h B H (Le.refl e) b _ fun k B' H' pk l b' => by
    subst pk
    exact q B' H' l b'
theorem q_whenB {k : Bool} (I : L2.St → Hp → Hp → Prop) (h : EvT t σ B H k) (e : Ex B H) (b : Bag g B H) (h1 : k = true → ∀ B' H', Le [] B H B' H' → Bag g B' H' → ∀ N : L2.St → Hp → Prop, (∀ σ' B2 H2, Le [g] B' H' B2 H2 → Bag g B2 H2 → I σ' B2 H2 → N σ' H2) → tu { D with nx := N } σ H') (h2 : k = false → ∀ B' H', Le [] B H B' H' → I σ B' H')
    (hz : ∀ σ' B' H', Le [g] B H B' H' → Bag g B' H' → I σ' B' H' → tz D σ' H') : tSeq (tIfS t tu tNext) tz D σ H :=
  q_when h e (fun hk B' H' l => h1 hk B' H' l (b.pure l) _ fun σ' B2 H2 l2 b2 i => hz σ' B2 H2 (l.any.trans l2) b2 i) fun hk B' H' l => hz σ B' H' l.any (b.pure l) (h2 hk B' H' l)
/-! ## [.. for k in range(n)], drawn -/
theorem eb_lcR {n : Nat} {j : Nat} {vs : List Nat} (hn : n ≤ 1000) (he : ∀ (i : Nat) B1 H1, Le [g] B H B1 H1 → i < n → Eb K g te ((wipe σ vs).set j (some (.int (i : Nat)))) B1 H1 R)
    (hw : ∀ x, wipe ((wipe σ vs).set j (some x)) vs = wipe σ vs := by intro _; rfl) :
    Eb K g (tLc (iRng1 (tCons (tC (.int (n : Nat))) tNil)) (gName j) tYes te vs) σ B H (fun d => ∃ ds, d = .list ds ∧ ds.length = n ∧ ∀ d ∈ ds, R d) := fun B1 H1 l1 b1 Q q => by
  refine ⟨(n : Nat), rfl, by omega, by omega, fun D hD => ?_⟩
  rw [show ((n : Nat) : Int).toNat = n by omega]
  have hDb := none_of l1.h hD
  have hDg := b1.ne hD
  have hsl : 1000 < sizeLine := by rw [sizeLine_eq]; decide
  refine lc_range (lo := 0) (n := n) (fun i Hi => ∃ (Bi : Hp) (acc : List V) (ds : List PyData), Le [D, g] B1 H1 Bi Hi ∧ Bag g Bi Hi ∧ Bi D = none ∧ Hi D = some (.lst acc) ∧ DqAll K Bi acc ds ∧ ds.length = i ∧ ∀ d ∈ ds, R d) ?_ ?_ ?_
  · obtain ⟨x, y, z, hg⟩ := b1.has
    exact ⟨B1, [], [], Le.made l1.h hD, ⟨b1.own, x, y, z, by rw [upd_ne (Ne.symm hDg)]; exact hg⟩, hDb, upd_same, .nil, rfl, by simp⟩
  · rintro i Hi hi ⟨Bi, acc, ds, li, bi, di, dl, dq, ln, hr⟩
    refine ⟨hw _, ?_⟩
    refine yes_i ?_
    rw [if_pos rfl, Int.zero_add]
    have lloc := l1.trans (li.local hD)
    refine he i Bi Hi lloc hi Bi Hi (Le.refl li.h) bi _ fun d v B2 H2 r l2 b2 hv => ?_
    have dl2 := l2.k D _ (by simp [hDg]) dl
    have d2 := l2.own dl di
    have hln := dq.length
    refine ⟨acc, dl2, by omega, B2, acc ++ [v], ds ++ [d], ?_, ?_, d2, upd_same, (dq.mono l2.b).append (.cons hv .nil), by simp [ln], fun x hx => ?_⟩
    · exact (li.trans (l2.wk (by simp))).trans (Le.put l2.h d2 (by simp))
    · obtain ⟨x, y, z, hg⟩ := b2.has
      exact ⟨b2.own, x, y, z, by rw [upd_ne (Ne.symm hDg)]; exact hg⟩
    · rcases List.mem_append.mp hx with z | z
      · exact hr x z
      · rw [List.mem_singleton.mp z]; exact r
  · rintro Hi ⟨Bi, acc, ds, li, bi, di, dl, dq, ln, hr⟩
    have lg := (li.give hD di dl).local hD
    have bg : Bag g (upd Bi D (.lst acc)) Hi := ⟨by rw [upd_ne (Ne.symm hDg)]; exact bi.own, bi.has⟩
    exact q _ (.ref D) _ Hi ⟨ds, rfl, ln, hr⟩ lg bg (.lst upd_same (dq.mono (Evl.Ex.new di)))
/-! ## [k for k in d if i in d[k]] -/
theorem kvs_ofParts : ∀ {kvs : List (Key × V)} {ns : List Int}, kvs.map (·.1) = ns.map Sum.inl → kvsOf ns (kvs.map (·.2)) = kvs
  | [], [], _ => rfl
  | [], _ :: _, h => by cases h
  | _ :: _, [], h => by cases h
  | (k, v) :: kvs, n :: ns, h => by
    have h1 : k = Sum.inl n := (List.cons.inj h).1
    subst h1
    show (Sum.inl n, v) :: kvsOf ns (kvs.map (·.2)) = _
    rw [kvs_ofParts (List.cons.inj h).2]
def lockedK (H : Hp) (d : Addr) (kvs : List (Key × V)) : Prop := ∃ od, H d = some (.frz od (.dK kvs))
theorem ev_keysF {ns : List Int} {m : Int → List Int} {v : V} {x : Int} {id_ ix jk : Nat} {vs : List Nat} (hi : σ[id_]? = some (some v)) (hv : Dq K B v (effM ns fun n => .tuple ((m n).map PyData.int))) (e : Ex B H) (hnd : ns.Nodup) (hln : ns.length ≤ 1000)
    (hd : ∀ y, ((wipe σ vs).set jk (some y))[id_]? = some (some v)) (hx : ∀ y, ((wipe σ vs).set jk (some y))[ix]? = some (some (.int x)))
    (hw : ∀ y, wipe ((wipe σ vs).set jk (some y)) vs = wipe σ vs := by intro _; rfl) (hk : ∀ y, ((wipe σ vs).set jk (some y))[jk]? = some (some y) := by intro _; rfl) :
    Ev K (tLockE (tLc (iKeys (tVar id_)) (gName jk) (tTest (tOp (rIn K false) (tVar ix) (tDGet (tVar id_) (tVar jk)))) (tVar jk) vs)) σ B H (.list ((ns.filter fun n => decide (x ∈ m n)).map PyData.int)) := by
  unfold effM at hv
  generalize hE : ns.map (fun n => (PyData.int n, PyData.tuple ((m n).map PyData.int))) = L at hv
  cases hv with
  | dct h hq =>
    rename_i d kvs ds
    obtain ⟨z1, z2⟩ := zip_parts (by have := hq.length; rwa [List.length_map] at this) hE.symm
    subst z2
    refine ev_lock (e d _ h) fun od B1 H1 l1 hd1 => ?_
    have hb1 := l1.b d _ h
    have hq1 := DqAll.off hb1 (hq.mono l1.b)
    have e1 := lock_le (od := od) l1.h hd1
    generalize hBl : dropB B1 d = Bl at hq1 e1 ⊢
    generalize hHl : upd H1 d (.frz od (.dK kvs)) = Hl at e1 ⊢
    have hdl : Hl d = some (.frz od (.dK kvs)) := by rw [← hHl]; exact upd_same
    clear hHl hBl
    intro B2 H2 l2 Q q
    have hd2 := l2.k d _ (by simp) hdl
    have kl : kvs.length = ns.length := by have := congrArg List.length z1; rwa [List.length_map, List.length_map] at this
    refine ⟨.ref d, hi, d, od, rfl, .inl ⟨kvs, hd2, fun D hD => ?_⟩⟩
    have hDb := none_of l2.h hD
    have hsl : 1000 < sizeLine := by rw [sizeLine_eq]; decide
    refine lc_it (walk_keys (d := d) (o := od) (kvs := kvs)) (fun i Hi => ∃ Bi, Le [] B2 H2 Bi Hi ∧ Bi D = none ∧ Hi D = some (.lst (((ns.take i).filter fun n => decide (x ∈ m n)).map V.int))) ⟨B2, Le.made l2.h hD, hDb, upd_same⟩ (fun i Hi _ p => ?_) (fun i y Hi Hi' hlt p yy => ?_) (fun Hi p => ?_)
    · obtain ⟨Bi, le, _⟩ := p
      exact le.k d _ (by simp) hd2
    · obtain ⟨rfl, kk, yv, ekv, rfl⟩ := yy
      obtain ⟨Bi, le, hbi, hh⟩ := p
      have hlt' : i < ns.length := by omega
      have en : ns[i]? = some ns[i] := List.getElem?_eq_getElem hlt'
      have ekk : kk = .inl ns[i] := by
        have := congrArg (fun l => l[i]?) z1
        simp only [List.getElem?_map, ekv, en, Option.map_some] at this
        exact Option.some.inj this
      subst ekk
      obtain ⟨dd, ed, hy⟩ := (hq1.mono (l2.trans le).b).get (i := i) (v := yv) (by rw [List.getElem?_map, ekv]; rfl)
      rw [List.getElem?_map, en] at ed
      cases ed
      have hdi := le.k d _ (by simp) hd2
      have htk : ns.take (i + 1) = ns.take i ++ [ns[i]] := by rw [List.take_add_one, en]; rfl
      have hval : valV kvs (.inl ns[i] : Key) = some yv := by
        have := kvs_val (ns := ns) (ys := kvs.map (·.2)) hnd en (by rw [List.getElem?_map, ekv]; rfl)
        rwa [show kvsOf ns (kvs.map (·.2)) = kvs from kvs_ofParts z1] at this
      refine ⟨hw _, ?_⟩
      -- the test
      have tst : EvT (tTest (tOp (rIn K false) (tVar ix) (tDGet (tVar id_) (tVar jk)))) ((wipe σ vs).set jk (some (.int ns[i]))) Bi Hi' (decide (x ∈ m ns[i])) :=
        et_test (ev_op (ev_var (hx _) (.int x)) (fun B3 H3 l3 Q q => ⟨.ref d, hd _, .int ns[i], hk _, d, yv, rfl, .inl ⟨kvs, .inl ns[i], .inr ⟨od, l3.k d _ (by simp) hdi⟩, rfl, hval.symm⟩, q yv B3 H3 (Le.refl l3.h) (hy.mono l3.b)⟩) rv_inTI)
      refine tst Bi Hi' (Le.refl le.h) _ fun B3 H3 l3 => ?_
      have h3 := l3.k D _ (by simp) hh
      have b3 := l3.own hh hbi
      have hlen : ((ns.take i).filter fun n => decide (x ∈ m n)).length ≤ 1000 := Nat.le_trans (List.length_filter_le _ _) (by rw [List.length_take]; omega)
      by_cases z : x ∈ m ns[i]
      · rw [if_pos (decide_eq_true z)]
        refine ⟨.int ns[i], hk _, _, h3, by rw [List.length_map]; omega, B3, ?_, b3, ?_⟩
        · exact ((le.any.trans l3.any).trans (Le.put (M := [D]) l3.h b3 (by simp))).local hD
        · rw [upd_same, htk, List.filter_append]
          simp [z]
      · rw [if_neg (by simp [z])]
        refine ⟨B3, le.trans l3, b3, ?_⟩
        rw [h3, htk, List.filter_append]
        simp [z]
    · obtain ⟨Bi, le, hbi, hh⟩ := p
      rw [kl, List.take_length] at hh
      have lg := le.give hD hbi hh
      exact q (.ref D) _ Hi lg (.lst upd_same (dqInts _))
end
/-! ## list(d) -/
def rLstD : List V → Hp → VK → Prop := fun xs H Q => ∃ (a : Addr) (kvs : List (Key × V)), xs = [.ref a] ∧ Rd H a (.dK kvs) ∧ ∀ p, H p = none → Q (.ref p) (upd H p (.lst (kvs.map fun kv => kV kv.1)))
theorem rc_lstD {K : PySem.W.Frag} {ns : List Int} {F : Int → PyData} : RC K rLstD [effM ns F] (.list (ns.map PyData.int)) := fun B H vs e hvs Q q => by
  obtain ⟨v, rfl, hv⟩ := dq1 hvs
  unfold effM at hv
  generalize hE : ns.map (fun n => (PyData.int n, F n)) = L at hv
  cases hv with
  | dct h hq =>
    rename_i d kvs ds
    obtain ⟨z1, z2⟩ := zip_parts (by have := hq.length; rwa [List.length_map] at this) hE.symm
    refine ⟨d, kvs, rfl, .inl (e _ _ h), fun p hp => ?_⟩
    have ek : (kvs.map fun kv => kV kv.1) = ns.map V.int := by
      have := congrArg (List.map kV) z1
      rw [List.map_map, List.map_map] at this
      exact this
    rw [ek]
    exact q (.ref p) _ _ (Le.new e hp) (.lst upd_same (dqInts _))
end MA

set_option maxRecDepth 100000
set_option maxHeartbeats 2000000
namespace MA
open PySem PySem.Spec PyProof.Rows L2
/-! ## a well: three ints, read and changed on the way; how often it was read is counted -/
structure Wl (g : Addr) (m : Nat) (B H : Hp) : Prop where
  own : B g = none
  has : ∃ x y z : Int, H g = some (.lst [.int x, .int y, .int z]) ∧ (0 ≤ y ∧ y < 2 ^ 200) ∧ 0 ≤ z ∧ z ≤ (m : Int)
section
variable {g p : Addr} {m n : Nat} {B H B' H' : Hp}
theorem Wl.mono (b : Wl g m B H) (h : m ≤ n) : Wl g n B H := by
  obtain ⟨x, y, z, h1, h2, h3, h4⟩ := b.has
  exact ⟨b.own, x, y, z, h1, h2, h3, by omega⟩
theorem Wl.pure (b : Wl g m B H) (l : Le [] B H B' H') : Wl g m B' H' := by
  obtain ⟨x, y, z, h, r⟩ := b.has
  exact ⟨l.own h b.own, x, y, z, l.k g _ (by simp) h, r⟩
theorem Wl.other (b : Wl g m B H) (l : Le [p] B H B' H') (hne : p ≠ g) : Wl g m B' H' := by
  obtain ⟨x, y, z, h, r⟩ := b.has
  exact ⟨l.own h b.own, x, y, z, l.k g _ (by simp [Ne.symm hne]) h, r⟩
theorem Wl.ne (b : Wl g m B H) (hp : H p = none) : p ≠ g := fun z => by
  obtain ⟨x, y, w, h, _⟩ := b.has
  rw [z, h] at hp
  cases hp
/-- a list of ours is made -/
theorem Wl.made {o : HO} (b : Wl g m B H) (hp : H p = none) : Wl g m B (upd H p o) := by
  have hne := b.ne hp
  obtain ⟨x, y, z, h, r⟩ := b.has
  exact ⟨b.own, x, y, z, by rw [upd_ne (Ne.symm hne)]; exact h, r⟩
/-- .. changed, or given away -/
theorem Wl.put {o : HO} (b : Wl g m B H) (hne : p ≠ g) : Wl g m B (upd H p o) := by
  obtain ⟨x, y, z, h, r⟩ := b.has
  exact ⟨b.own, x, y, z, by rw [upd_ne (Ne.symm hne)]; exact h, r⟩
theorem Wl.give {o : HO} (b : Wl g m B H) (hne : p ≠ g) : Wl g m (upd B p o) H := ⟨by rw [upd_ne (Ne.symm hne)]; exact b.own, b.has⟩
end
section
variable (K : PySem.W.Frag) (g : Addr)
def Ew (c : Nat) (te : TE) (σ : L2.St) (B H : Hp) (R : PyData → Prop) : Prop := ∀ (m : Nat) B1 H1, m + c ≤ 1000000 → Le [g] B H B1 H1 → Wl g m B1 H1 → ∀ Q : VK, (∀ d v B2 H2, R d → Le [g] B1 H1 B2 H2 → Wl g (m + c) B2 H2 → Dq K B2 v d → Q v H2) → te σ H1 Q
def EwA (c : Nat) (ta : TA) (σ : L2.St) (B H : Hp) (R : List PyData → Prop) : Prop := ∀ (m : Nat) B1 H1, m + c ≤ 1000000 → Le [g] B H B1 H1 → Wl g m B1 H1 → ∀ Q : List V → Hp → Prop, (∀ ds vs B2 H2, R ds → Le [g] B1 H1 B2 H2 → Wl g (m + c) B2 H2 → DqAll K B2 vs ds → Q vs H2) → ta σ H1 Q
def EwT (c : Nat) (t : TT) (σ : L2.St) (B H : Hp) (R : Bool → Prop) : Prop := ∀ (m : Nat) B1 H1, m + c ≤ 1000000 → Le [g] B H B1 H1 → Wl g m B1 H1 → ∀ Q : Bool → Hp → Prop, (∀ k B2 H2, R k → Le [g] B1 H1 B2 H2 → Wl g (m + c) B2 H2 → Q k H2) → t σ H1 Q
/-- a def that reads the well, its first argument, c times at most -/
def Bw (c : Nat) (Pre : List PyData → Prop) (Post : List PyData → PyData → Prop) : Sp := fun vs H Q _ => ∃ g us B ds m, vs = .ref g :: us ∧ Ex B H ∧ Wl g m B H ∧ m + c ≤ 1000000 ∧ DqAll K B us ds ∧ Pre ds ∧ ∀ d, Post ds d → ∀ v B' H', Le [g] B H B' H' → Wl g (m + c) B' H' → Dq K B' v d → Q v H'
end
section
variable {K : PySem.W.Frag} {g : Addr} {σ : L2.St} {B H : Hp} {ta tb te : TE} {t u : TT} {d : PyData} {R R1 Rb : PyData → Prop} {c c' a b : Nat}
theorem ew_of (h : ∀ B1 H1, Le [g] B H B1 H1 → Ev K te σ B1 H1 d) : Ew K g 0 te σ B H (· = d) := fun m B1 H1 _ l w Q q =>
  h B1 H1 l B1 H1 (Le.refl l.h) Q fun v B2 H2 l2 hv => q d v B2 H2 rfl l2.any (w.pure l2) hv
theorem ewa_of {ts : TA} {ds : List PyData} (h : ∀ B1 H1, Le [g] B H B1 H1 → EvA K ts σ B1 H1 ds) : EwA K g 0 ts σ B H (· = ds) := fun m B1 H1 _ l w Q q =>
  h B1 H1 l B1 H1 (Le.refl l.h) Q fun v B2 H2 l2 hv => q ds v B2 H2 rfl l2.any (w.pure l2) hv
theorem Ew.imp (h : Ew K g c te σ B H R1) (hr : ∀ d, R1 d → R d) : Ew K g c te σ B H R := fun m B1 H1 hm l w Q q => h m B1 H1 hm l w Q fun d v B2 H2 r => q d v B2 H2 (hr d r)
theorem EwA.imp {ts : TA} {S S' : List PyData → Prop} (h : EwA K g c ts σ B H S) (hr : ∀ d, S d → S' d) : EwA K g c ts σ B H S' := fun m B1 H1 hm l w Q q => h m B1 H1 hm l w Q fun d v B2 H2 r => q d v B2 H2 (hr d r)
theorem Ew.wk (h : Ew K g c te σ B H R) (hc : c ≤ c') : Ew K g c' te σ B H R := fun m B1 H1 hm l w Q q => h m B1 H1 (by omega) l w Q fun d v B2 H2 r l2 w2 => q d v B2 H2 r l2 (w2.mono (by omega))
theorem Ew.up {B' H' : Hp} (l : Le [g] B H B' H') (h : Ew K g c te σ B H R) : Ew K g c te σ B' H' R := fun m B1 H1 hm l1 w Q q => h m B1 H1 hm (l.trans l1) w Q q
theorem ew_op {r : R2} (ha : Ew K g a ta σ B H R1) (hb : Ew K g b tb σ B H Rb) (hr : ∀ x y, R1 x → Rb y → ∃ z, RV K r x y z ∧ R z) : Ew K g (a + b) (tOp r ta tb) σ B H R := fun m B1 H1 hm l w Q q =>
  ha m B1 H1 (by omega) l w _ fun x v B2 H2 r1 l2 w2 hv => hb (m + a) B2 H2 (by omega) (l.trans l2) w2 _ fun y u B3 H3 r2 l3 w3 hw => by
    obtain ⟨z, rv, rz⟩ := hr x y r1 r2
    exact rv B3 H3 v u l3.h (hv.mono l3.b) hw Q fun o B4 H4 l4 ho => q z o B4 H4 rz ((l2.trans l3).trans l4.any) ((w3.pure l4).mono (by omega)) ho
theorem ewa_nil : EwA K g 0 tNil σ B H (· = []) := fun m B1 H1 hm l w Q q => q [] [] B1 H1 rfl (Le.refl l.h) w .nil
theorem ewa_cons {tr : TA} {Rr : List PyData → Prop} (ha : Ew K g a ta σ B H R1) (hr : EwA K g b tr σ B H Rr) : EwA K g (a + b) (tCons ta tr) σ B H (fun ds => ∃ d r, ds = d :: r ∧ R1 d ∧ Rr r) := fun m B1 H1 hm l w Q q =>
  ha m B1 H1 (by omega) l w _ fun x v B2 H2 r1 l2 w2 hv => hr (m + a) B2 H2 (by omega) (l.trans l2) w2 _ fun ys vs B3 H3 r2 l3 w3 hs => q (x :: ys) (v :: vs) B3 H3 ⟨x, ys, rfl, r1, r2⟩ (l2.trans l3) (w3.mono (by omega)) (.cons (hv.mono l3.b) hs)
/-- a list of values of one kind -/
def AllR (R : PyData → Prop) (n : Nat) (ds : List PyData) : Prop := ds.length = n ∧ ∀ d ∈ ds, R d
theorem ewa_nilR : EwA K g 0 tNil σ B H (AllR R 0) := (ewa_nil).imp fun d h => by subst h; exact ⟨rfl, by simp⟩
theorem ewa_consR {tr : TA} {n : Nat} (ha : Ew K g a ta σ B H R) (hr : EwA K g b tr σ B H (AllR R n)) : EwA K g (a + b) (tCons ta tr) σ B H (AllR R (n + 1)) := (ewa_cons ha hr).imp fun ds h => by
  obtain ⟨d, r, rfl, h1, h2, h3⟩ := h
  exact ⟨by simp [h2], fun x hx => (List.mem_cons.mp hx).elim (fun e => e ▸ h1) (h3 x)⟩
theorem ew_lst {ts : TA} {Rr : List PyData → Prop} (h : EwA K g c ts σ B H Rr) (hz : ∀ ds, Rr ds → ds.length ≤ sizeLine) : Ew K g c (tLst ts) σ B H (fun d => ∃ ds, d = .list ds ∧ Rr ds) := fun m B1 H1 hm l w Q q =>
  h m B1 H1 hm l w _ fun ds vs B2 H2 r l2 w2 hs => ⟨by rw [hs.length]; exact hz ds r, fun p hp => q (.list ds) (.ref p) _ _ ⟨ds, rfl, r⟩ (l2.trans (Le.new l2.h hp)) (w2.pure (Le.new l2.h hp)) (.lst upd_same (hs.mono (Le.new (M := []) l2.h hp).b))⟩
theorem ew_tup {ts : TA} {Rr : List PyData → Prop} (h : EwA K g c ts σ B H Rr) (hz : ∀ ds, Rr ds → ds.length ≤ sizeLine) : Ew K g c (tTup ts) σ B H (fun d => ∃ ds, d = .tuple ds ∧ Rr ds) := fun m B1 H1 hm l w Q q =>
  h m B1 H1 hm l w _ fun ds vs B2 H2 r l2 w2 hs => ⟨by rw [hs.length]; exact hz ds r, fun p hp => q (.tuple ds) (.ref p) _ _ ⟨ds, rfl, r⟩ (l2.trans (Le.new l2.h hp)) (w2.pure (Le.new l2.h hp)) (.tup (.inl (.inl upd_same)) (hs.mono (Le.new (M := []) l2.h hp).b))⟩
theorem ew_call {Pre : List PyData → Prop} {Post : List PyData → PyData → Prop} {E : XK} {i : Nat} {ts : TA} {Rr : List PyData → Prop} (hb : σ[i]? = some (some (.ref g))) (h : EwA K g a ts σ B H Rr) (hp : ∀ ds, Rr ds → Pre ds) :
    Ew K g (a + c) (tCall (Bw K c Pre Post) [] E (tCons (tVar i) ts)) σ B H (fun d => ∃ ds, Rr ds ∧ Post ds d) := fun m B1 H1 hm l w Q q => by
  refine ⟨.ref g, hb, ?_⟩
  refine h m B1 H1 (by omega) l w _ fun ds vs B2 H2 r l2 w2 hs => ⟨g, vs, B2, ds, m + a, by rw [List.append_nil], l2.h, w2, by omega, hs, hp ds r, fun d pd v B3 H3 l3 w3 hv => ?_⟩
  exact q d v B3 H3 ⟨ds, r, pd⟩ (l2.trans l3) (w3.mono (by omega)) hv
theorem ew_cb1 {rr : List V → Hp → VK → Prop} (h : Ew K g c te σ B H R1) (hr : ∀ x, R1 x → ∃ z, RC K rr [x] z ∧ R z) : Ew K g c (tCB rr (tCons te tNil)) σ B H R := fun m B1 H1 hm l w Q q =>
  h m B1 H1 hm l w _ fun x v B2 H2 r1 l2 w2 hv => by
    obtain ⟨z, rc, rz⟩ := hr x r1
    exact rc B2 H2 [v] l2.h (.cons hv .nil) Q fun o B3 H3 l3 ho => q z o B3 H3 rz (l2.trans l3.any) (w2.pure l3) ho
theorem ew_cb2 {rr : List V → Hp → VK → Prop} (h : Ew K g a ta σ B H R1) (h2 : Ew K g b tb σ B H Rb) (hr : ∀ x y, R1 x → Rb y → ∃ z, RC K rr [x, y] z ∧ R z) : Ew K g (a + b) (tCB rr (tCons ta (tCons tb tNil))) σ B H R := fun m B1 H1 hm l w Q q =>
  h m B1 H1 (by omega) l w _ fun x v B2 H2 r1 l2 w2 hv => h2 (m + a) B2 H2 (by omega) (l.trans l2) w2 _ fun y u B3 H3 r2 l3 w3 hu => by
    obtain ⟨z, rc, rz⟩ := hr x y r1 r2
    exact rc B3 H3 [v, u] l3.h (.cons (hv.mono l3.b) (.cons hu .nil)) Q fun o B4 H4 l4 ho => q z o B4 H4 rz ((l2.trans l3).trans l4.any) ((w3.pure l4).mono (by omega)) ho
theorem ew_sl {rr : V → Option Int → Option Int → Hp → VK → Prop} {P : Int → Prop} (h : Ew K g a ta σ B H R1) (h2 : Ew K g b tb σ B H (RI P)) (hr : ∀ x i, R1 x → P i → ∃ z, RS K rr x none (some i) z ∧ R z) : Ew K g (a + b) (tSl rr ta tNoPart (tPart tb)) σ B H R := fun m B1 H1 hm l w Q q =>
  h m B1 H1 (by omega) l w _ fun x v B2 H2 r1 l2 w2 hv => h2 (m + a) B2 H2 (by omega) (l.trans l2) w2 _ fun y u B3 H3 r2 l3 w3 hw => by
    obtain ⟨i, rfl, hi⟩ := r2
    cases hw
    obtain ⟨z, rs, rz⟩ := hr x i r1 hi
    exact ⟨i, rfl, rs B3 H3 v l3.h (hv.mono l3.b) Q fun o B4 H4 l4 ho => q z o B4 H4 rz ((l2.trans l3).trans l4.any) ((w3.pure l4).mono (by omega)) ho⟩
theorem wi_of {i : Int} (h : ∀ B1 H1, Le [g] B H B1 H1 → Ev K te σ B1 H1 (.int i)) : Ew K g 0 te σ B H (RI (· = i)) := (ew_of h).imp fun d e => ⟨i, e, rfl⟩
theorem wi_op {r : R2} {f : Int → Int → Int} {P1 P2 P : Int → Prop} (ha : Ew K g a ta σ B H (RI P1)) (hb : Ew K g b tb σ B H (RI P2)) (hr : ∀ i j, P1 i → P2 j → RV K r (.int i) (.int j) (.int (f i j)) ∧ P (f i j)) : Ew K g (a + b) (tOp r ta tb) σ B H (RI P) :=
  ew_op ha hb fun x y h1 h2 => by
    obtain ⟨i, rfl, p1⟩ := h1
    obtain ⟨j, rfl, p2⟩ := h2
    exact ⟨_, (hr i j p1 p2).1, _, rfl, (hr i j p1 p2).2⟩
theorem bw_len {Pre : List PyData → Prop} {Post : List PyData → PyData → Prop} {n : Nat} (hn : ∀ ds, Pre ds → ds.length = n) (vs : List V) (H : Hp) (Q : VK) (E : XK) (h : Bw K c Pre Post vs H Q E) : vs.length = n + 1 := by
  obtain ⟨g, us, B, ds, _, rfl, _, _, _, h1, h2, _⟩ := h
  rw [List.length_cons, h1.length, hn ds h2]
/-- an item of a list, at a drawn place -/
theorem ew_ixR {n : Nat} {P : Int → Prop} (ha : Ew K g a ta σ B H (fun d => ∃ ds, d = .list ds ∧ AllR R n ds)) (hb : Ew K g b tb σ B H (RI P)) (hP : ∀ i, P i → 0 ≤ i ∧ i < n) : Ew K g (a + b) (tOp (rIx K) ta tb) σ B H R :=
  ew_op ha hb fun x y h1 h2 => by
    obtain ⟨ds, rfl, hl, hr⟩ := h1
    obtain ⟨i, rfl, hi⟩ := h2
    obtain ⟨i0, i1⟩ := hP i hi
    have hlt : i.toNat < ds.length := by omega
    have hg : ds[i.toNat]? = some ds[i.toNat] := List.getElem?_eq_getElem hlt
    refine ⟨ds[i.toNat], rv_ixL ?_, hr _ (List.getElem_mem hlt)⟩
    unfold atI ixN
    rw [if_pos i0, if_pos (by omega)]
    exact hg
/-- a number below n -/
abbrev PailS (K : PySem.W.Frag) : Sp := Bw K 1 (fun ds => ∃ n : Int, ds = [.int n] ∧ 0 < n ∧ n < 2 ^ 300) fun ds d => ∃ n r : Int, ds = [.int n] ∧ d = .int r ∧ 0 ≤ r ∧ r < n
theorem ew_pail {E : XK} {i : Nat} {P : Int → Prop} (hb : σ[i]? = some (some (.ref g))) (h : Ew K g a te σ B H (RI P)) (hp : ∀ n, P n → 0 < n ∧ n < 2 ^ 300) : Ew K g (a + 1) (tCall (PailS K) [] E (tCons (tVar i) (tCons te tNil))) σ B H (RI fun r => ∃ n, P n ∧ 0 ≤ r ∧ r < n) :=
  (ew_call (a := a + 0) hb (ewa_cons h ewa_nil) fun ds r => by
    obtain ⟨d, r, rfl, ⟨n, rfl, pn⟩, rfl⟩ := r
    exact ⟨n, rfl, hp n pn⟩).imp fun d h => by
      obtain ⟨ds, ⟨x, r, rfl, ⟨n, rfl, pn⟩, rfl⟩, m, r, e, rfl, h1, h2⟩ := h
      cases e
      exact ⟨r, rfl, n, pn, h1, h2⟩
theorem ew_pailC {E : XK} {i : Nat} {n : Int} (hb : σ[i]? = some (some (.ref g))) (h : ∀ B1 H1, Le [g] B H B1 H1 → Ev K te σ B1 H1 (.int n)) (h0 : 0 < n) (h1 : n < 2 ^ 300) : Ew K g 1 (tCall (PailS K) [] E (tCons (tVar i) (tCons te tNil))) σ B H (RI fun r => 0 ≤ r ∧ r < n) :=
  (ew_pail (a := 0) (P := (· = n)) hb ((ew_of h).imp fun d e => ⟨n, e, rfl⟩) fun m e => by subst e; exact ⟨h0, h1⟩).imp fun d h => by
    obtain ⟨r, rfl, m, rfl, h1, h2⟩ := h
    exact ⟨r, rfl, h1, h2⟩
/-! statements -/
variable {D : Ends} {tu tw tz : TS} {m : Nat}
theorem w_set {i : Nat} (h : Ew K g c te σ B H R) (hm : m + c ≤ 1000000) (e : Ex B H) (w : Wl g m B H) (q : ∀ d v B' H', R d → Le [g] B H B' H' → Wl g (m + c) B' H' → Dq K B' v d → tz D (σ.set i (some v)) H') : tSeq (tAsg te (gName i)) tz D σ H := h m B H hm (Le.refl e) w _ q
theorem w_ret (h : Ew K g c te σ B H R) (hm : m + c ≤ 1000000) (e : Ex B H) (w : Wl g m B H) (q : ∀ d v B' H', R d → Le [g] B H B' H' → Wl g (m + c) B' H' → Dq K B' v d → D.rt v H') : tRet te D σ H := h m B H hm (Le.refl e) w _ q
/-- an if without else that keeps a word, nothing drawn in the test -/
theorem q_whenW {k : Bool} (I : L2.St → Hp → Hp → Prop) (h : EvT t σ B H k) (e : Ex B H) (h1 : k = true → ∀ B' H', Le [] B H B' H' → ∀ N : L2.St → Hp → Prop, (∀ σ' B2 H2, Le [g] B' H' B2 H2 → I σ' B2 H2 → N σ' H2) → tu { D with nx := N } σ H') (h2 : k = false → ∀ B' H', Le [] B H B' H' → I σ B' H')
    (hz : ∀ σ' B' H', Le [g] B H B' H' → I σ' B' H' → tz D σ' H') : tSeq (tIfS t tu tNext) tz D σ H :=
  q_when h e (fun hk B' H' l => h1 hk B' H' l _ fun σ' B2 H2 l2 i => hz σ' B2 H2 (l.any.trans l2) i) fun hk B' H' l => hz σ B' H' l.any (h2 hk B' H' l)
/-- [left.pop(pail(well, len(left))) for k in range(n)] -/
theorem w_pops {p : Addr} {tn : TA} {j ia ib : Nat} {vs : List Nat} {xs : List Int} {n : Int} {Q : VK} (hta : EvA K tn σ B H [.int n]) (e : Ex B H) (hw0 : Wl g m B H) (hp : B p = none) (hpl : H p = some (.lst (xs.map V.int))) (hpg : p ≠ g)
    (hw : ∀ x, wipe ((wipe σ vs).set j (some x)) vs = wipe σ vs) (ha : ∀ x, ((wipe σ vs).set j (some x))[ia]? = some (some (.ref p))) (hbb : ∀ x, ((wipe σ vs).set j (some x))[ib]? = some (some (.ref g)))
    (hn0 : 0 ≤ n) (hn : n ≤ xs.length) (hx : xs.length ≤ 1000) (hm : m + n.toNat ≤ 1000000)
    (q : ∀ (acc rest : List Int) (v : V) B' H', (acc ++ rest).Perm xs → (acc.length : Int) = n → Le [p, g] B H B' H' → Wl g (m + n.toNat) B' H' → Dq K B' v (.list (acc.map PyData.int)) → Q v H') :
    tLc (iRng1 tn) (gName j) tYes (tBM K "list" rPopAt (tVar ia) (tCons (tCall (PailS K) [] E0 (tCons (tVar ib) (tCons (tCB (rLenA K) (tCons (tVar ia) tNil)) tNil))) tNil)) vs σ H Q := by
  refine hta B H (Le.refl e) _ fun us B1 H1 l1 hus => ?_
  obtain ⟨u, rfl, hu⟩ := dq1 hus
  cases hu
  refine ⟨n, rfl, by omega, by omega, fun D hD => ?_⟩
  have hb1 := hw0.pure l1
  have hp1 : B1 p = none := l1.own hpl hp
  have hpl1 := l1.k p _ (by simp) hpl
  have hDg := hb1.ne hD
  have hDp : D ≠ p := fun z => by rw [z, hpl1] at hD; cases hD
  have hDb := none_of l1.h hD
  have hsl : 1000 < sizeLine := by rw [sizeLine_eq]; decide
  refine lc_range (lo := 0) (n := n.toNat) (fun i Hi => ∃ (Bi : Hp) (acc rest : List Int), Le [D, p, g] B1 H1 Bi Hi ∧ Wl g (m + i) Bi Hi ∧ Bi p = none ∧ Hi p = some (.lst (rest.map V.int)) ∧ Bi D = none ∧ Hi D = some (.lst (acc.map V.int)) ∧ (acc ++ rest).Perm xs ∧ acc.length = i) ?_ ?_ ?_
  · exact ⟨B1, [], xs, Le.made l1.h hD, hb1.made hD, hp1, by rw [upd_ne (Ne.symm hDp)]; exact hpl1, hDb, upd_same, .refl _, rfl⟩
  · rintro i Hi hi ⟨Bi, acc, rest, li, bi, pi, pl, di, dl, pm, ln⟩
    have hlen := pm.length_eq
    rw [List.length_append] at hlen
    refine ⟨hw _, yes_i ?_⟩
    rw [if_pos rfl]
    refine ⟨.ref p, ha _, .inl ⟨rfl, _, .inl (.inl pl)⟩, ?_⟩
    refine (ew_pailC (K := K) (g := g) (E := E0) (σ := (wipe σ vs).set j (some (.int (0 + (i : Nat))))) (B := Bi) (H := Hi) (i := ib) (te := tCB (rLenA K) (tCons (tVar ia) tNil)) (n := rest.length) (hbb _) (fun B2 H2 l2 B3 H3 l3 Q' q' => ?_) (by omega) (by omega)) (m + i) Bi Hi (by omega) (Le.refl li.h) bi _ fun d v B2 H2 r l2 w2 hv => ?_
    · refine ⟨.ref p, ha _, p, rest.map V.int, rfl, .inl (.inl (.inl (l3.k p _ (by simp) (l2.k p _ (by simp [hpg]) pl)))), ?_⟩
      rw [List.length_map]
      exact q' _ B3 H3 (Le.refl l3.h) (.int _)
    obtain ⟨r, rfl, r0, r1⟩ := r
    cases hv
    have pl2 := l2.k p _ (by simp [hpg]) pl
    have p2 := l2.own pl pi
    have dl2 := l2.k D _ (by simp [hDg]) dl
    have d2 := l2.own dl di
    have hlt : r.toNat < rest.length := by omega
    have hg : rest[r.toNat]? = some rest[r.toNat] := List.getElem?_eq_getElem hlt
    refine ⟨p, rest.map V.int, r, r.toNat, .int rest[r.toNat], rfl, rfl, pl2, by omega, by omega, ?_, by rw [List.getElem?_map, hg]; rfl, ?_⟩
    · rw [List.length_map]
      exact idx_nat r0 r1
    rw [erase_mapM]
    have l3 : Le [D, p, g] B2 H2 B2 (upd H2 p (.lst ((rest.eraseIdx r.toNat).map V.int))) := Le.put l2.h p2 (by simp)
    have dl3 : (upd H2 p (.lst ((rest.eraseIdx r.toNat).map V.int))) D = some (.lst (acc.map V.int)) := by rw [upd_ne hDp]; exact dl2
    refine ⟨acc.map V.int, dl3, by rw [List.length_map]; omega, B2, acc ++ [rest[r.toNat]], rest.eraseIdx r.toNat, ?_, ?_, p2, ?_, d2, ?_, ?_, by simp [ln]⟩
    · exact ((li.trans (l2.wk (by simp))).trans l3).trans (Le.put l3.h d2 (by simp))
    · exact ((w2.put hpg).put hDg).mono (by omega)
    · rw [upd_ne (Ne.symm hDp)]; exact upd_same
    · rw [upd_same, List.map_append]; rfl
    · rw [List.append_assoc]
      have pe : (rest[r.toNat] :: rest.eraseIdx r.toNat).Perm rest := erase_permM rest r.toNat _ hg
      exact (List.Perm.append_left acc pe).trans pm
  · rintro Hi ⟨Bi, acc, rest, li, bi, pi, pl, di, dl, pm, ln⟩
    have lg := (li.give hD di dl).local hD
    exact q acc rest (.ref D) _ Hi pm (by omega) (l1.any.trans lg) (bi.give hDg) (.lst upd_same (dqInts _))
end
end MA

set_option maxRecDepth 100000
set_option maxHeartbeats 8000000
namespace K34
open PySem PySem.Spec PyProof.Rows L2 MA
section
variable {P : Program} {w : World} {K : PySem.W.Frag} {mg : PySem.Str → Option Value} {base : Heap}
theorem ok_played (D : Df K mg "played" s_played ["items", "script"]) (z_list : mg "list" = none) : Cl P w K mg base CX0 1 "played" ["items", "script"] (PlayedS K) :=
  Cl.pu D sc_played (fun ds h => by obtain ⟨_, R, cs, h | h, _⟩ := h <;> rw [h] <;> rfl) fun f cdv A outer s H vs Q E B ds hr e hq hp k => by
    obtain ⟨xs, R, cs, hds, cg, fit, r1000⟩ := hp
    have hu := hr.units0
    refine ⟨_, (pss_cons (ps_set (i := 2) sc_played.nd rfl (.inl rfl) (pe_callTy call_list_of (by rfl) z_list (by decide +kernel) (pa_cons (pv 0) pa_nil))) (pss_cons (ps_for PassesOwn.never rfl (pi_tup (pv 1)) (pg_tup rfl (pgs_cons (pg_name (i := 3) sc_played.nd rfl (.inl rfl)) (pgs_cons (pg_name (i := 4) sc_played.nd rfl (.inl rfl)) (pgs_cons (pg_name (i := 5) sc_played.nd rfl (.inl rfl)) pgs_nil)))) (pss_cons (ps_expr (pe_bm PySem.F.plainAttrs_list PySem.F.slot_list_remove PySem.F.type_list_remove mt_remove (pv 2) (pa_cons (pv 4) pa_nil))) (pss_cons (ps_set (i := 6) sc_played.nd rfl (.inl rfl) (pe_bm PySem.F.plainAttrs_list PySem.F.slot_list_index PySem.F.type_list_index mt_index (pv 2) (pa_cons (pv 5) pa_nil))) (pss_cons (ps_if (pt_cmpR (op_eqA hu) (pv 3) pe_str (nomark _)) (pss_one (ps_aug (i := 6) sc_played.nd rfl (.inl rfl) pe_int ip_add)) pss_nil) (pss_one (ps_expr (pe_bm PySem.F.plainAttrs_list PySem.F.slot_list_insert PySem.F.type_list_insert mt_insert (pv 2) (pa_cons (pv 6) (pa_cons (pv 4) pa_nil))))))))) (pss_one (ps_ret (pv 2))))), ?_⟩
    replace k := k (.list ((playL cs R).map PyData.int)) (fun R' cs' h => by
      have z : ∀ {a b : List Int} {c d : List PyData}, ds = [.list (a.map PyData.int), .tuple c] ∨ ds = [.tuple (a.map PyData.int), .tuple c] → ds = [.list (b.map PyData.int), .tuple d] ∨ ds = [.tuple (b.map PyData.int), .tuple d] → a = b ∧ c = d := fun h1 h2 => by
        rcases h1 with h1 | h1 <;> rcases h2 with h2 | h2 <;> rw [h1] at h2
        · injection h2 with e1 e2
          injection e2 with e2 _
          exact ⟨ints_inj (PyData.list.inj e1), PyData.tuple.inj e2⟩
        · injection h2 with e1 e2
          cases e1
        · injection h2 with e1 e2
          cases e1
        · injection h2 with e1 e2
          injection e2 with e2 _
          exact ⟨ints_inj (PyData.tuple.inj e1), PyData.tuple.inj e2⟩
      obtain ⟨h1, h2⟩ := z hds h
      rw [h1, h2])
    obtain ⟨v0, v1, rfl, hv0, hv1, hseq⟩ : ∃ v0 v1, vs = [v0, v1] ∧ (∃ a, v0 = .ref a ∧ (SqL K B a (R.map V.int) ∨ SqT K B a (R.map V.int))) ∧ Dq K B v1 (.tuple cs) ∧ True := by
      rcases hds with rfl | rfl
      · obtain ⟨v0, v1, rfl, h0, h1⟩ := dq2 hq
        cases h0 with
        | lst h q =>
          cases ofInts q
          exact ⟨_, v1, rfl, ⟨_, rfl, .inl (.inl (.inl h))⟩, h1, trivial⟩
      · obtain ⟨v0, v1, rfl, h0, h1⟩ := dq2 hq
        cases h0 with
        | tup h q =>
          cases ofInts q
          exact ⟨_, v1, rfl, ⟨_, rfl, .inr h⟩, h1, trivial⟩
    obtain ⟨a, rfl, hsq⟩ := hv0
    -- row = list(items)
    refine q_asgR ⟨.ref a, rfl, a, _, rfl, hsq.imp (Evl.ex_l e) (Evl.ex_t e), fun p hp => ?_⟩
    have hB := none_of e hp
    have l1 : Le [p] B H B (upd H p (.lst (R.map V.int))) := Le.made e hp
    cases hv1 with
    | tup hs hcs =>
      rename_i b ys
      refine ⟨.ref b, rfl, b, rfl, ⟨ys, Evl.ex_t l1.h hs⟩, for_tup (xs := ys) (fun i σ' H' => ∃ (Bi : Hp) (o3 o4 o5 o6 : Option V), σ' = [some (.ref a), some (.ref b), some (.ref p), o3, o4, o5, o6] ∧ Le [p] B H Bi H' ∧ Bi p = none ∧ H' p = some (.lst ((playL (cs.take i) R).map V.int)))
        ⟨B, none, none, none, none, rfl, l1, hB, upd_same⟩ (fun i σ' H' _ h => ?_) (fun i x σ' H' hi h => ?_) (fun σ' H' h => ?_)⟩
      · obtain ⟨Bi, _, _, _, _, _, l, _⟩ := h
        exact Evl.ex_t (l.b.trans l.h) hs
      · obtain ⟨Bi, o3, o4, o5, o6, rfl, l, bp, hpl⟩ := h
        obtain ⟨c, hc, hx⟩ := hcs.get hi
        have hcm : c ∈ cs := List.mem_of_getElem? hc
        have hst := playL_take (R := R) hc
        obtain ⟨hfit, hperm⟩ : Fit xs (playL (cs.take i) R) ∧ (playL (cs.take i) R).Perm R := by
          have h := (play_of (cs.take i) (fun c hc => cg c (List.mem_of_mem_take hc)) fit).2
          exact ⟨fun k hk => by rw [h.count_eq, fit k hk], h⟩
        generalize playL (cs.take i) R = Rk at hst hfit hperm hpl
        have hlen : Rk.length ≤ 1000 := by rw [hperm.length_eq]; exact r1000
        obtain ⟨wd, i', j, rfl, hw, hi', hj, hne⟩ := cg c hcm
        have mi : i' ∈ Rk := List.one_le_count_iff.mp (by rw [hfit i' hi']; exact Nat.le_refl _)
        have mj : j ∈ Rk.erase i' := List.one_le_count_iff.mp (by rw [List.count_erase_of_ne (Ne.symm hne), hfit j hj]; exact Nat.le_refl _)
        refine gt3 l.h (hx.mono l.b) fun y3 y4 y5 h3 h4 h5 => ?_
        cases h4
        cases h5
        -- row.remove(item)
        refine q_rem rfl rfl hpl mi ?_
        have l2 : Le [p] Bi H' Bi (upd H' p (.lst ((Rk.erase i').map V.int))) := Le.put l.h bp (by simp)
        -- place = row.index(other)
        refine q_idx rfl rfl upd_same mj ?_
        -- if word == 'behind': place += 1
        have hidx : (Rk.erase i').idxOf j < (Rk.erase i').length := List.idxOf_lt_length_of_mem mj
        have hel : (Rk.erase i').length ≤ 1000 := Nat.le_trans (List.length_erase_le) hlen
        have ins : ∀ (B5 H5 : Hp) (n : Nat), n ≤ 1001 → Le [p] Bi H' B5 H5 → B5 p = none → H5 p = some (.lst ((Rk.erase i').map V.int)) → n = (Rk.erase i').idxOf j + (if decide (wd = "behind") then 1 else 0) →
            ∀ N : L2.St → Hp → Prop, (∀ σ3 B3 H3, Le [p] B H B3 H3 → B3 p = none → H3 p = some (.lst ((MA.stepI (decide (wd = "behind")) i' j Rk).map V.int)) → (∃ o3 o4 o5 o6, σ3 = [some (.ref a), some (.ref b), some (.ref p), o3, o4, o5, o6]) → N σ3 H3) →
            ∀ rr : List V → Hp → VK → Prop, True → N [some (.ref a), some (.ref b), some (.ref p), some y3, some (.int i'), some (.int j), some (.int n)] (upd H5 p (.lst (((Rk.erase i').map V.int).take n ++ [.int i'] ++ ((Rk.erase i').map V.int).drop n))) := fun B5 H5 n hn l5 b5 hp5 en N hN _ _ => by
          have l6 : Le [p] B5 H5 B5 (upd H5 p (.lst (((Rk.erase i').map V.int).take n ++ [.int i'] ++ ((Rk.erase i').map V.int).drop n))) := Le.put l5.h b5 (by simp)
          refine hN _ B5 _ ((l.trans l5).trans l6) b5 ?_ ⟨_, _, _, _, rfl⟩
          rw [upd_same, en]
          unfold MA.stepI
          simp only [List.map_append, List.map_take, List.map_drop, List.map_cons, List.map_nil]
        refine q_whenS (k := decide (wd = "behind")) (fun σ' B' => σ' = [some (.ref a), some (.ref b), some (.ref p), some y3, some (.int i'), some (.int j), some (.int (((Rk.erase i').idxOf j + (if decide (wd = "behind") then 1 else 0) : Nat) : Int))])
          (et_test (ev_op (ev_var rfl h3) ev_s rv_eqS)) l2.h (fun hk B5 H5 l5 N hN => ?_) (fun hk B5 H5 l5 => ?_) fun σ' B5 H5 l5 hσ => ?_
        · refine ⟨_, rfl, _, 1, rfl, rfl, hN _ B5 H5 (Le.refl l5.h) ?_⟩
          rw [hk]
          rfl
        · rw [hk]
          rfl
        · subst hσ
          have b5 := l5.own upd_same bp
          have hp5 := l5.k p _ (by simp) upd_same
          have hsl : 100000 < sizeLine := by rw [sizeLine_eq]; decide
          have hn : (Rk.erase i').idxOf j + (if decide (wd = "behind") then 1 else 0) ≤ 1001 := by split <;> omega
          refine ⟨.ref p, rfl, .inl ⟨rfl, _, .inl (.inl hp5)⟩, _, rfl, .int i', rfl, p, _, _, .int i', rfl, rfl, hp5, by rw [List.length_map]; omega, by omega, by omega, ?_⟩
          rw [Int.toNat_natCast]
          refine ins B5 H5 _ hn (l2.trans l5.any) b5 hp5 rfl _ (fun σ3 B3 H3 l3 b3 hp3 hσ3 => ?_) (fun _ _ _ => True) trivial
          obtain ⟨o3, o4, o5, o6, rfl⟩ := hσ3
          refine ⟨B3, o3, o4, o5, o6, rfl, l3, b3, ?_⟩
          rw [hst, hp3]
          rfl
      · obtain ⟨Bi, o3, o4, o5, o6, rfl, l, bp, hpl⟩ := h
        rw [hcs.length, List.take_length] at hpl
        refine ⟨.ref p, rfl, ?_⟩
        have lg := l.give hp bp hpl
        exact k (.ref p) _ H' (lg.local hp) (.lst upd_same (dqInts _))
end
end K34

set_option maxRecDepth 100000
set_option maxHeartbeats 8000000
namespace K34
open PySem PySem.Spec PyProof.Rows L2 MA
section
variable {P : Program} {w : World} {K : PySem.W.Frag} {mg : PySem.Str → Option Value} {base : Heap}
theorem ok_fenced (D : Df K mg "fenced" s_fenced ["items"]) {tF : Tok} (g_FENCE : mg "FENCE" = some (.int (-1) tF)) : Cl P w K mg base CX0 1 "fenced" ["items"] (FencedS K) :=
  Cl.pu D sc_fenced (fun ds h => by obtain ⟨R, h, _⟩ := h; rw [h]; rfl) fun f cdv A outer s H vs Q E B ds hr e hq hp k => by
    obtain ⟨R, rfl, r1000⟩ := hp
    refine ⟨_, (pss_cons (ps_set (i := 1) sc_fenced.nd rfl (.inl rfl) (pe_lst pa_nil)) (pss_cons (ps_for PassesOwn.never rfl (pi_list (pv 0)) (pg_name (i := 2) sc_fenced.nd rfl (.inl rfl)) (pss_cons (ps_expr (pe_bm PySem.F.plainAttrs_list PySem.F.slot_list_append PySem.F.type_list_append mt_append (pv 1) (pa_cons (pe_glob (v := .int (-1)) (by rfl) g_FENCE ⟨_, rfl⟩) pa_nil))) (pss_one (ps_expr (pe_bm PySem.F.plainAttrs_list PySem.F.slot_list_append PySem.F.type_list_append mt_append (pv 1) (pa_cons (pv 2) pa_nil)))))) (pss_one (ps_ret (pv 1))))), ?_⟩
    replace k := k (.list ((fencedL R).map PyData.int)) (fun R' h => by
      injection h with e1 _
      rw [ints_inj (PyData.list.inj e1)])
    obtain ⟨v0, rfl, hv⟩ := dq1 hq
    cases hv with
    | lst hs hqx =>
      rename_i a ys
      cases ofInts hqx
      refine ⟨Nat.zero_le _, fun p hp => ?_⟩
      have hB := none_of e hp
      have l1 : Le [p] B H B (upd H p (.lst [])) := Le.made e hp
      have hsq := l1.h _ _ hs
      refine ⟨.ref a, rfl, a, rfl, ⟨_, .inl (.inl hsq)⟩, for_list (xs := R.map V.int) (fun i σ' H' => ∃ (Bi : Hp) (o2 : Option V), σ' = [some (.ref a), some (.ref p), o2] ∧ Le [p] B H Bi H' ∧ Bi p = none ∧ H' p = some (.lst ((fencedL (R.take i)).map V.int)))
        ⟨B, none, rfl, l1, hB, upd_same⟩ (fun i σ' H' _ h => ?_) (fun i x σ' H' hi h => ?_) (fun σ' H' h => ?_)⟩
      · obtain ⟨Bi, _, _, l, _⟩ := h
        exact .inl (.inl (l.h _ _ (l.b _ _ hs)))
      · obtain ⟨Bi, o2, rfl, l, bp, hpl⟩ := h
        rw [List.getElem?_map] at hi
        cases hr : R[i]? with
        | none => rw [hr] at hi; cases hi
        | some n =>
          rw [hr] at hi
          cases hi
          have hlt : i < R.length := (List.getElem?_eq_some_iff.mp hr).1
          have hfl : ∀ L : List Int, (fencedL L).length = 2 * L.length := by
            intro L
            induction L with
            | nil => rfl
            | cons a L ih =>
              show ((-1 : Int) :: a :: fencedL L).length = _
              rw [List.length_cons, List.length_cons, ih, List.length_cons]
              omega
          have hl := hfl (R.take i)
          rw [List.length_take] at hl
          refine q_append (K := K) (p := p) rfl (ev_c (.int (-1))) l.h bp hpl (by rw [List.length_map]; omega) fun v B2 H2 l2 b2 hp2 hv => ?_
          cases hv
          refine s_append (K := K) (p := p) rfl (ev_var rfl (.int n)) l2.h b2 hp2 (by rw [List.length_append, List.length_map]; show _ + 1 < _; omega) fun v B3 H3 l3 b3 hp3 hv => ?_
          cases hv
          refine ⟨B3, _, rfl, (l.trans l2).trans l3, b3, ?_⟩
          rw [hp3, List.take_add_one, hr]
          unfold fencedL
          simp only [List.flatMap_append, List.map_append, Option.toList, List.flatMap_cons, List.flatMap_nil, List.append_assoc, List.map_cons, List.map_nil, List.cons_append, List.nil_append]
      · obtain ⟨Bi, o2, rfl, l, bp, hpl⟩ := h
        rw [List.length_map, List.take_length] at hpl
        refine ⟨.ref p, rfl, ?_⟩
        have lg := l.give hp bp hpl
        exact k (.ref p) _ H' (lg.local hp) (.lst upd_same (dqInts _))
end
end K34

set_option maxRecDepth 100000
set_option maxHeartbeats 8000000
namespace K34
open PySem PySem.Spec PyProof.Rows L2 MA
section
variable {P : Program} {w : World} {K : PySem.W.Frag} {mg : PySem.Str → Option Value} {base : Heap}
def listTup : PyData → PyData
  | .list es => .tuple es
  | d => d
theorem ok_between_fences (D : Df K mg "between_fences" s_between_fences ["row"]) (z_tuple : mg "tuple" = none) {tF : Tok} (g_FENCE : mg "FENCE" = some (.int (-1) tF)) : Cl P w K mg base CX0 1 "between_fences" ["row"] (PartsS K) :=
  Cl.pu D sc_between_fences (fun ds h => by obtain ⟨R, h, _⟩ := h; rw [h]; rfl) fun f cdv A outer s H vs Q E B ds hr e hq hp k => by
    obtain ⟨R0, rfl, r10⟩ := hp
    have hu := hr.units0
    refine ⟨_, (pss_cons (ps_set (i := 1) sc_between_fences.nd rfl (.inl rfl) (pe_lst pa_nil)) (pss_cons (ps_for PassesOwn.never rfl (pi_list (pv 0)) (pg_name (i := 2) sc_between_fences.nd rfl (.inl rfl)) (pss_one (ps_if (pt_cmpR (op_eqA hu) (pv 2) (pe_glob (v := .int (-1)) (by rfl) g_FENCE ⟨_, rfl⟩) (nomark _)) (pss_one (ps_expr (pe_bm PySem.F.plainAttrs_list PySem.F.slot_list_append PySem.F.type_list_append mt_append (pv 1) (pa_cons (pe_lst pa_nil) pa_nil)))) (pss_one (ps_expr (pe_bm PySem.F.plainAttrs_list PySem.F.slot_list_append PySem.F.type_list_append mt_append (pe_ix ix_seq (pv 1) (pe_un un_neg pe_int) (fun _ _ => rfl)) (pa_cons (pv 2) pa_nil))))))) (pss_one (ps_ret (pe_lc (own := [("part", 3)]) (tt := tYes) (te := (tCB (rTupA K) (tCons (tVar 3) tNil))) rfl sc_between_fences.nd (pi_list (pv 1)) (blkOk_by (N := N_between_fences) (sc := defScope s_between_fences) (by decide +kernel)) (fun _ _ _ _ _ => (pg_name (i := 3) sc_between_fences.nd rfl (.inl rfl))) (fun _ _ _ _ _ => pts_nil) (fun _ _ _ _ _ => (pe_callTy call_tuple_of (by rfl) z_tuple (by decide +kernel) (pa_cons (pv 3) pa_nil)))))))), ?_⟩
    replace k := k (.list ((((-1) :: R0).foldl partStep []).map fun l => .tuple (l.map PyData.int))) (fun R' h => by
      injection h with e1 _
      rw [ints_inj (PyData.list.inj e1)])
    obtain ⟨v0, rfl, hv⟩ := dq1 hq
    have hR : ((-1) :: R0)[0]? = some (-1) := rfl
    have hRl : ((-1) :: R0).length ≤ 10001 := by rw [List.length_cons]; omega
    generalize (-1 : Int) :: R0 = R at k hv hR hRl
    have hsl : 100000 < sizeLine := by rw [sizeLine_eq]; decide
    cases hv with
    | lst hs hqx =>
      rename_i a ys
      cases ofInts hqx
      refine ⟨Nat.zero_le _, fun p hp => ?_⟩
      have hB := none_of e hp
      have l1 : Le [p] B H B (upd H p (.lst [])) := Le.made e hp
      have hsq := l1.h _ _ hs
      refine ⟨.ref a, rfl, a, rfl, ⟨_, .inl (.inl hsq)⟩, for_list (xs := R.map V.int) (fun i σ' H' => ∃ (Bi : Hp) (o2 o3 : Option V), σ' = [some (.ref a), some (.ref p), o2, o3] ∧ Le [p] B H Bi H' ∧ Bi p = none ∧
        ((i = 0 ∧ H' p = some (.lst [])) ∨ (0 < i ∧ ∃ (us : List V) (P : List (List Int)) (b : Addr) (l : List Int), (R.take i).foldl partStep [] = P ++ [l] ∧ us.length ≤ i ∧ l.length ≤ i ∧ H' p = some (.lst (us ++ [.ref b])) ∧ DqAll K Bi us (P.map fun l => .list (l.map PyData.int)) ∧ Bi b = none ∧ H b = none ∧ H' b = some (.lst (l.map V.int)) ∧ b ≠ p)))
        ⟨B, none, none, rfl, l1, hB, .inl ⟨rfl, upd_same⟩⟩ (fun i σ' H' _ h => ?_) (fun i x σ' H' hi h => ?_) (fun σ' H' h => ?_)⟩
      · obtain ⟨Bi, _, _, _, l, _⟩ := h
        exact .inl (.inl (l.h _ _ (l.b _ _ hs)))
      · obtain ⟨Bi, o2, o3, rfl, l, bp, hst⟩ := h
        rw [List.getElem?_map] at hi
        cases hr : R[i]? with
        | none => rw [hr] at hi; cases hi
        | some n =>
          rw [hr] at hi
          cases hi
          have hlt : i < R.length := (List.getElem?_eq_some_iff.mp hr).1
          have htk : (R.take (i + 1)).foldl partStep [] = partStep ((R.take i).foldl partStep []) n := by rw [List.take_add_one, hr, List.foldl_append]; rfl
          refine s_if (k := decide (n = -1)) (et_test (ev_op (ev_var rfl (.int n)) (ev_c (.int (-1))) rv_eqI)) l.h (fun hk B2 H2 l2 => ?_) (fun hk B2 H2 l2 => ?_)
          · have en : n = -1 := of_decide_eq_true hk
            subst en
            rcases hst with ⟨rfl, hpl⟩ | ⟨i0, us, P, b0, l0, e1, e2, e3, hpl, e4, e5, e6, e7, e8⟩
            · have hpl2 := l2.k p _ (by simp) hpl
              have bp2 := l2.own hpl bp
              refine ⟨.ref p, rfl, .inl ⟨rfl, _, .inl (.inl hpl2)⟩, Nat.zero_le _, fun b hb => ?_⟩
              have hbp : b ≠ p := fun z => by rw [z, hpl2] at hb; cases hb
              have ll : Le [p] B H B2 H2 := l.trans l2.any
              have lb : Le [p] B2 H2 B2 (upd H2 b (.lst [])) := Le.made ll.h hb
              have hpb : (upd H2 b (.lst [])) p = some (.lst []) := by rw [upd_ne (Ne.symm hbp)]; exact hpl2
              refine ⟨p, [], .ref b, rfl, rfl, hpb, by show 0 < sizeLine; omega, ?_⟩
              have lp : Le [p] B2 (upd H2 b (.lst [])) B2 (upd (upd H2 b (.lst [])) p (.lst ([] ++ [.ref b]))) := Le.put lb.h bp2 (by simp)
              exact ⟨B2, _, _, rfl, (ll.trans lb).trans lp, bp2, .inr ⟨Nat.succ_pos _, [], [], b, [], htk, Nat.zero_le _, Nat.zero_le _, upd_same, .nil, none_of ll.h hb, ll.back hb, by rw [upd_ne hbp, upd_same]; rfl, hbp⟩⟩
            · have hpl2 := l2.k p _ (by simp) hpl
              have bp2 := l2.own hpl bp
              have e7' := l2.k b0 _ (by simp) e7
              have e5' := l2.own e7 e5
              refine ⟨.ref p, rfl, .inl ⟨rfl, _, .inl (.inl hpl2)⟩, Nat.zero_le _, fun b hb => ?_⟩
              have hbp : b ≠ p := fun z => by rw [z, hpl2] at hb; cases hb
              have hbb : b ≠ b0 := fun z => by rw [z, e7'] at hb; cases hb
              have ll : Le [p] B H (upd B2 b0 (.lst (l0.map V.int))) H2 := (l.trans l2.any).give e6 e5' e7'
              have lb : Le [p] (upd B2 b0 (.lst (l0.map V.int))) H2 (upd B2 b0 (.lst (l0.map V.int))) (upd H2 b (.lst [])) := Le.made ll.h hb
              have hpb : (upd H2 b (.lst [])) p = some (.lst (us ++ [.ref b0])) := by rw [upd_ne (Ne.symm hbp)]; exact hpl2
              have bp3 : (upd B2 b0 (.lst (l0.map V.int))) p = none := by rw [upd_ne (Ne.symm e8)]; exact bp2
              refine ⟨p, _, .ref b, rfl, rfl, hpb, by rw [List.length_append]; show us.length + 1 < sizeLine; omega, ?_⟩
              have lp : Le [p] (upd B2 b0 (.lst (l0.map V.int))) (upd H2 b (.lst [])) (upd B2 b0 (.lst (l0.map V.int))) (upd (upd H2 b (.lst [])) p (.lst ((us ++ [.ref b0]) ++ [.ref b]))) := Le.put lb.h bp3 (by simp)
              refine ⟨_, _, _, rfl, (ll.trans lb).trans lp, bp3, .inr ⟨Nat.succ_pos _, us ++ [.ref b0], P ++ [l0], b, [], ?_, by rw [List.length_append]; show us.length + 1 ≤ _; omega, Nat.zero_le _, upd_same, ?_, ?_, ll.back hb, by rw [upd_ne hbp, upd_same]; rfl, hbp⟩⟩
              · rw [htk, e1]
                unfold partStep
                rw [if_pos rfl]
              · rw [List.map_append]
                exact ((e4.mono l2.b).mono (Evl.Ex.new e5')).append (.cons (.lst upd_same (dqInts _)) .nil)
              · rw [upd_ne hbb]
                exact none_of (l.trans l2.any).h hb
          · have en : n ≠ -1 := of_decide_eq_false hk
            rcases hst with ⟨rfl, hpl⟩ | ⟨i0, us, P, b0, l0, e1, e2, e3, hpl, e4, e5, e6, e7, e8⟩
            · rw [hR] at hr
              exact absurd (Option.some.inj hr).symm en
            · have hpl2 := l2.k p _ (by simp) hpl
              have bp2 := l2.own hpl bp
              have e7' := l2.k b0 _ (by simp) e7
              have e5' := l2.own e7 e5
              refine ⟨.ref p, rfl, 1, rfl, ix_own hpl2 (atI_last us (.ref b0)) ⟨.inl ⟨rfl, _, .inl (.inl e7')⟩, .int n, rfl, b0, _, .int n, rfl, rfl, e7', by rw [List.length_map]; omega, ?_⟩⟩
              have ll : Le [p] B H B2 H2 := l.trans l2.any
              have lp : Le [b0, p] B2 H2 B2 (upd H2 b0 (.lst (l0.map V.int ++ [.int n]))) := Le.put ll.h e5' (by simp)
              refine ⟨B2, _, _, rfl, ((ll.wk (by simp)).trans lp).local e6, bp2, .inr ⟨Nat.succ_pos _, us, P, b0, l0 ++ [n], ?_, by omega, by rw [List.length_append]; show l0.length + 1 ≤ _; omega, by rw [upd_ne (Ne.symm e8)]; exact hpl2, e4.mono l2.b, e5', e6, by rw [upd_same, List.map_append]; rfl, e8⟩⟩
              rw [htk, e1]
              unfold partStep
              rw [if_neg en, List.dropLast_concat, List.getLastD_eq_getLast?, List.getLast?_concat]
              rfl
      · obtain ⟨Bi, o2, o3, rfl, l, bp, hst⟩ := h
        rw [List.length_map] at hst
        rcases hst with ⟨z, _⟩ | ⟨i0, us, P, b0, l0, e1, e2, e3, hpl, e4, e5, e6, e7, e8⟩
        · have := (List.getElem?_eq_some_iff.mp hR).1
          omega
        · rw [List.take_length] at e1
          have lg := l.give e6 e5 e7
          have bp2 : (upd Bi b0 (.lst (l0.map V.int))) p = none := by rw [upd_ne (Ne.symm e8)]; exact bp
          have lg2 := (lg.give hp bp2 hpl).local hp
          have hdq : Dq K (upd (upd Bi b0 (.lst (l0.map V.int))) p (.lst (us ++ [.ref b0]))) (.ref p) (.list ((R.foldl partStep []).map fun l => .list (l.map PyData.int))) := by
            rw [e1, List.map_append]
            refine .lst upd_same (((e4.mono (Evl.Ex.new e5)).mono (Evl.Ex.new bp2)).append (.cons ?_ .nil))
            exact .lst (by rw [upd_ne e8, upd_same]) (dqInts _)
          have c := ev_compL (K := K) (σ := [some (.ref a), some (.ref p), o2, o3]) (B := upd (upd Bi b0 (.lst (l0.map V.int))) p (.lst (us ++ [.ref b0]))) (H := H') (te := tCB (rTupA K) (tCons (tVar 3) tNil)) (tt := tYes) (tl := tVar 1) (j := 3) (vs := [3]) (fun _ => true) listTup (ev_var rfl hdq) (by
              rw [e1, List.length_map, List.length_append]
              have := e4.length
              rw [List.length_map] at this
              show P.length + 1 ≤ 100000
              omega) (fun d v B1 H1 l hd hv => et_yes) (fun d v B1 H1 l hd hv _ => by
            obtain ⟨l', _, rfl⟩ := List.mem_map.mp hd
            exact ev_cb (ea_cons (ev_var rfl hv) ea_nil) rc_tupL)
          rw [filter_true, List.map_map] at c
          refine s_ret (K := K) c lg2.h fun v B3 H3 l3 hv => k v B3 H3 (lg2.trans l3) hv
end
end K34

set_option maxRecDepth 100000
set_option maxHeartbeats 8000000
namespace K34
open PySem PySem.Spec PyProof.Rows L2 MA
section
variable {P : Program} {w : World} {K : PySem.W.Frag} {mg : PySem.Str → Option Value} {base : Heap}
/-- the blocks of a script -/
def effD (cs : List PyData) : PyData := effM (namedI cs) fun n => .tuple ((scrMap cs n).map PyData.int)
theorem good_of {cs : List PyData} (h : ∀ c ∈ cs, isCommandD c = true) : ∀ c ∈ cs, GoodC (namedI cs) c := fun c hc => by
  obtain ⟨x, i, j, rfl, hw, a1, a2, b1, b2, hne⟩ := command_of (h c hc)
  refine ⟨x, i, j, rfl, hw, mem_below.mpr ⟨a1, a2, List.any_eq_true.mpr ⟨_, hc, ?_⟩⟩, mem_below.mpr ⟨b1, b2, List.any_eq_true.mpr ⟨_, hc, ?_⟩⟩, hne⟩
  · simp [itemsD, itemI]
  · simp [itemsD, itemI]
theorem named_nd (cs : List PyData) : (namedI cs).Nodup := below_nodup _
theorem named_in {cs : List PyData} {k : Int} (h : k ∈ namedI cs) : 0 ≤ k ∧ k < 60 := by
  have := mem_below.mp h
  exact ⟨this.1, this.2.1⟩
theorem named_len (cs : List PyData) : (namedI cs).length ≤ 60 := below_len _
theorem fence_count {k : Int} (hk : k ≠ -1) : ∀ ns : List Int, (fencedL ns).count k = ns.count k
  | [] => rfl
  | n :: ns => by
    show ((-1 : Int) :: n :: fencedL ns).count k = _
    rw [List.count_cons_of_ne (Ne.symm hk), List.count_cons, List.count_cons, fence_count hk ns]
theorem fence_len : ∀ ns : List Int, (fencedL ns).length = 2 * ns.length
  | [] => rfl
  | n :: ns => by
    show ((-1 : Int) :: n :: fencedL ns).length = _
    rw [List.length_cons, List.length_cons, fence_len ns, List.length_cons]
    omega
theorem count_nd : ∀ {ns : List Int} {k : Int}, ns.Nodup → k ∈ ns → ns.count k = 1
  | [], _, _, h => by cases h
  | n :: ns, k, hn, h => by
    rw [List.nodup_cons] at hn
    by_cases z : n = k
    · subst z
      rw [List.count_cons_self, List.count_eq_zero.mpr hn.1]
    · rw [List.count_cons_of_ne z]
      exact count_nd hn.2 ((List.mem_cons.mp h).resolve_left fun e => z e.symm)
theorem effect_math {cs : List PyData} (h1 : 1 ≤ cs.length) (h : ∀ c ∈ cs, isCommandD c = true) :
    Fit (namedI cs) (fencedL (namedI cs)) ∧ (∃ R, playL cs (fencedL (namedI cs)) = (-1) :: R ∧ R.length ≤ 10000) ∧ (playL cs (fencedL (namedI cs))).foldl partStep [] = (namedI cs).map (scrMap cs) := by
  have hg := good_of h
  have hm1 : (-1 : Int) ∉ namedI cs := fun z => by have := named_in z; omega
  have fit : Fit (namedI cs) (fencedL (namedI cs)) := fun k hk => by
    rw [fence_count (by have := named_in hk; omega)]
    exact count_nd (named_nd cs) hk
  obtain ⟨p1, p2⟩ := play_of cs hg fit
  have p3 : playL cs (fencedL (namedI cs)) = (namedI cs).flatMap fun n => -1 :: scrMap cs n := by rw [p1, fenced_map (scrMap_other hm1 hg)]
  have hno : ∀ n ∈ namedI cs, (-1 : Int) ∉ scrMap cs n := fun n hn z => by
    rcases scrMap_mem hg z with e | e
    · exact hm1 (e ▸ hn)
    · exact hm1 e
  refine ⟨fit, ?_, by rw [p3, parts_map _ _ hno, List.nil_append]⟩
  have hlen : (playL cs (fencedL (namedI cs))).length ≤ 120 := by
    rw [p2.length_eq, fence_len]
    have := named_len cs
    omega
  obtain ⟨n, r, en⟩ : ∃ n r, namedI cs = n :: r := by
    cases z : namedI cs with
    | nil =>
      exfalso
      obtain ⟨c, cr, ec⟩ : ∃ c cr, cs = c :: cr := by
        cases cs with
        | nil => exact absurd h1 (by decide)
        | cons x xr => exact ⟨x, xr, rfl⟩
      obtain ⟨x, i, j, _, _, hi, _⟩ := hg c (by rw [ec]; exact List.mem_cons_self ..)
      rw [z] at hi
      cases hi
    | cons n r => exact ⟨n, r, rfl⟩
  refine ⟨scrMap cs n ++ r.flatMap fun n => -1 :: scrMap cs n, by rw [p3, en]; rfl, ?_⟩
  rw [p3, en, List.flatMap_cons, List.length_append, List.length_cons] at hlen
  rw [List.length_append]
  omega
theorem ok_effect_of (D : Df K mg "effect_of" s_effect_of ["script"]) (C_named_items : Cl P w K mg base CX0 1 "named_items" ["script"] (Pn1 K (fun d => isScriptD d = true) fun d => .list ((namedI (tupD d)).map PyData.int)))
    (C_played : Cl P w K mg base CX0 1 "played" ["items", "script"] (PlayedS K)) (C_fenced : Cl P w K mg base CX0 1 "fenced" ["items"] (FencedS K)) (C_between_fences : Cl P w K mg base CX0 1 "between_fences" ["row"] (PartsS K)) (z_zip : mg "zip" = none) :
    Cl P w K mg base CX0 2 "effect_of" ["script"] (Pn1 K (fun d => isScriptD d = true) fun d => effD (tupD d)) :=
  Cl.of D sc_effect_of pn_len fun f cdv A outer s H vs Q E hr h => by
    obtain ⟨B, v, d, e, rfl, hv, hp, k⟩ := h
    obtain ⟨cs, rfl, c1, c200, hcs⟩ := script_of hp
    refine ⟨_, (pss_cons (ps_set (i := 1) sc_effect_of.nd rfl (.inl rfl) (pe_callC C_named_items (hr.mono (by decide)) (by rfl) pass0 (pa_cons (pv 0) pa_nil))) (pss_cons (ps_set (i := 2) sc_effect_of.nd rfl (.inl rfl) (pe_callC C_between_fences (hr.mono (by decide)) (by rfl) pass0 (pa_cons (pe_callC C_played (hr.mono (by decide)) (by rfl) pass0 (pa_cons (pe_callC C_fenced (hr.mono (by decide)) (by rfl) pass0 (pa_cons (pv 1) pa_nil)) (pa_cons (pv 0) pa_nil))) pa_nil))) (pss_one (ps_ret (pe_dc (own := [("item", 3), ("block", 4)]) (tt := tYes) (tk := (tVar 3)) (tv := (tVar 4)) (g := (gTup K 2 (gCons (gName 3) (gCons (gName 4) gNil)))) rfl sc_effect_of.nd (pi_zip (by rfl) z_zip (pa_cons (pv 1) (pa_cons (pv 2) pa_nil))) (blkOk_by (N := N_effect_of) (sc := defScope s_effect_of) (by decide +kernel)) (fun _ _ _ _ _ => (pg_tup rfl (pgs_cons (pg_name (i := 3) sc_effect_of.nd rfl (.inl rfl)) (pgs_cons (pg_name (i := 4) sc_effect_of.nd rfl (.inl rfl)) pgs_nil)))) (fun _ _ _ _ _ => pts_nil) (fun _ _ _ _ _ => (pv 3)) (fun _ _ _ _ _ => (pv 4))))))), ?_⟩
    obtain ⟨m1, ⟨R, m2, m3⟩, m4⟩ := effect_math c1 hcs
    refine q_set (K := K) (d := .list ((namedI cs).map PyData.int)) ((evN_call1 (g := fun d => .list ((namedI (tupD d)).map PyData.int)) (ev_var rfl hv) hp).ev) e fun v1 B1 H1 l1 hv1 => ?_
    have hv' := hv.mono l1.b
    have e1 : Ev K (tCall (FencedS K) [] E0 (tCons (tVar 1) tNil)) ((L2.start N_effect_of [v]).set 1 (some v1)) B1 H1 (.list ((fencedL (namedI cs)).map PyData.int)) :=
      ev_callU (ea_cons (ev_var rfl hv1) ea_nil) ⟨namedI cs, rfl, by have := named_len cs; omega⟩ fun x hx => hx _ rfl
    have e2 : Ev K (tCall (PlayedS K) [] E0 (tCons (tCall (FencedS K) [] E0 (tCons (tVar 1) tNil)) (tCons (tVar 0) tNil))) ((L2.start N_effect_of [v]).set 1 (some v1)) B1 H1 (.list ((playL cs (fencedL (namedI cs))).map PyData.int)) :=
      ev_callU (ea_cons e1 (ea_cons (ev_var rfl hv') ea_nil)) ⟨namedI cs, _, cs, .inl rfl, good_of hcs, m1, by rw [fence_len]; have := named_len cs; omega⟩ fun x hx => hx _ _ (.inl rfl)
    refine q_set (K := K) (d := .list ((namedI cs).map fun n => .tuple ((scrMap cs n).map PyData.int))) (ev_callU (ea_cons e2 ea_nil) ⟨R, by rw [m2], m3⟩ fun x hx => by
      rw [hx _ rfl, m4, List.map_map]
      rfl) l1.h fun v2 B2 H2 l2 hv2 => ?_
    refine evN_dcZip (K := K) (ns := namedI cs) (F := fun n => .tuple ((scrMap cs n).map PyData.int)) (ev_var rfl (hv1.mono l2.b)) (ev_var rfl hv2) (named_nd cs) (by have := named_len cs; omega) (fun _ _ => rfl) (fun _ _ => rfl) (fun _ _ => rfl) B2 H2 (Le.refl l2.h) _ fun v' B' H' l' hn hv' => ?_
    obtain ⟨a, ea, ha⟩ := hn
    exact k v' B' H' ((l1.trans l2).trans l') ⟨a, ea, (l1.trans l2).back ha⟩ hv'
/-- replaced: items by blocks -/
abbrev ReplS (K : PySem.W.Frag) : Sp := Pu K (fun ds => ∃ (xs ns : List Int) (m : Int → List Int), ds = [.tuple (xs.map PyData.int), effM ns fun n => .tuple ((m n).map PyData.int)] ∧ (xs.flatMap fun k => if k ∈ ns then m k else [k]).length ≤ 100000)
  fun ds d => ∃ (xs ns : List Int) (m : Int → List Int), ds = [.tuple (xs.map PyData.int), effM ns fun n => .tuple ((m n).map PyData.int)] ∧ d = .tuple ((xs.flatMap fun k => if k ∈ ns then m k else [k]).map PyData.int)
end
end K34

set_option maxRecDepth 100000
set_option maxHeartbeats 8000000
namespace K34
open PySem PySem.Spec PyProof.Rows L2 MA
section
variable {P : Program} {w : World} {K : PySem.W.Frag} {mg : PySem.Str → Option Value} {base : Heap}
theorem scr_repl {cs : List PyData} (h : ∀ c ∈ cs, isCommandD c = true) (r : Int) : (if r ∈ namedI cs then scrMap cs r else [r]) = scrMap cs r := by
  by_cases z : r ∈ namedI cs
  · rw [if_pos z]
  · rw [if_neg z, scrMap_other z (good_of h)]
theorem scr_len {cs : List PyData} (h1 : 1 ≤ cs.length) (h : ∀ c ∈ cs, isCommandD c = true) {r : Int} : (scrMap cs r).length ≤ 121 := by
  by_cases z : r ∈ namedI cs
  · obtain ⟨m1, _, _⟩ := effect_math h1 h
    obtain ⟨p1, p2⟩ := play_of cs (good_of h) m1
    have hl := p2.length_eq
    rw [p1, fence_len] at hl
    have hn := named_len cs
    have hm : r ∈ fencedL (namedI cs) := List.mem_flatMap.mpr ⟨r, z, by simp⟩
    have : ∀ {L : List Int} {m : Int → List Int}, r ∈ L → (m r).length ≤ (L.flatMap m).length := by
      intro L m
      induction L with
      | nil => intro h; cases h
      | cons a L ih =>
        intro h
        rw [List.flatMap_cons, List.length_append]
        rcases List.mem_cons.mp h with e | e
        · subst e; omega
        · have := ih e; omega
    have := this (m := scrMap cs) hm
    omega
  · rw [scrMap_other z (good_of h)]
    show 1 ≤ 121
    decide
theorem eff_injL {F F' : Int → PyData} : ∀ {ns ns' : List Int}, ns.map (fun n => (PyData.int n, F n)) = ns'.map (fun n => (PyData.int n, F' n)) → ns = ns' ∧ ∀ n ∈ ns, F n = F' n
  | [], [], _ => ⟨rfl, by simp⟩
  | [], _ :: _, h => by cases h
  | _ :: _, [], h => by cases h
  | n :: ns, n' :: ns', h => by
    have e1 : (PyData.int n, F n) = (PyData.int n', F' n') := (List.cons.inj h).1
    obtain ⟨r1, r2⟩ := eff_injL (List.cons.inj h).2
    have e2 := PyData.int.inj (Prod.mk.inj e1).1
    have e3 := (Prod.mk.inj e1).2
    subst e2 r1
    exact ⟨rfl, fun x hx => (List.mem_cons.mp hx).elim (fun e => by rw [e]; exact e3) (r2 x)⟩
theorem eff_inj {ns ns' : List Int} {F F' : Int → PyData} (h : effM ns F = effM ns' F') : ns = ns' ∧ ∀ n ∈ ns, F n = F' n := eff_injL (PyData.dict.inj h)
/-- replaced, called with a script's blocks -/
theorem ev_repl {σ : L2.St} {B H : Hp} {ta tb : TE} {E : XK} {cs : List PyData} {xs : List Int} (ha : Ev K ta σ B H (.tuple (xs.map PyData.int))) (hb : Ev K tb σ B H (effD cs)) (h1 : 1 ≤ cs.length) (h : ∀ c ∈ cs, isCommandD c = true) (hx : xs.length ≤ 500) :
    Ev K (tCall (ReplS K) [] E (tCons ta (tCons tb tNil))) σ B H (.tuple ((xs.flatMap (scrMap cs)).map PyData.int)) := by
  have e1 : ∀ ys : List Int, (ys.flatMap fun k => if k ∈ namedI cs then scrMap cs k else [k]) = ys.flatMap (scrMap cs) := fun ys => by
    congr 1
    funext k
    exact scr_repl h k
  have e2 : ∀ ys : List Int, (ys.flatMap (scrMap cs)).length ≤ ys.length * 121 := fun ys => by
    induction ys with
    | nil => exact Nat.le_refl _
    | cons y ys ih =>
      rw [List.flatMap_cons, List.length_append, List.length_cons, Nat.succ_mul]
      have := scr_len h1 h (r := y)
      omega
  refine ev_callU (ea_cons ha (ea_cons hb ea_nil)) ⟨xs, namedI cs, scrMap cs, rfl, ?_⟩ ?_
  · rw [e1]
    have := e2 xs
    omega
  · rintro x ⟨xs', ns', m', e, rfl⟩
    injection e with e3 e4
    injection e4 with e5 _
    have e6 := ints_inj (PyData.tuple.inj e3)
    obtain ⟨r1, r2⟩ := eff_inj e5
    subst e6 r1
    rw [← e1]
    refine congrArg (fun l : List Int => PyData.tuple (l.map PyData.int)) ?_
    congr 1
    funext k
    by_cases z : k ∈ namedI cs
    · rw [if_pos z, if_pos z]
      exact (ints_inj (PyData.tuple.inj (r2 k z))).symm
    · rw [if_neg z, if_neg z]
abbrev BlockS (K : PySem.W.Frag) : Sp := Pu K (fun ds => ∃ (cs : List PyData) (i : Int), ds = [.tuple cs, .int i] ∧ isScriptD (.tuple cs) = true ∧ 0 ≤ i ∧ i < 60) fun ds d => ∃ (cs : List PyData) (i : Int), ds = [.tuple cs, .int i] ∧ d = .tuple ((scrMap cs i).map PyData.int)
end
end K34

set_option maxRecDepth 100000
set_option maxHeartbeats 2000000
namespace MA
open PySem PySem.Spec PyProof.Rows L2
theorem kvs_put_new {ns : List Int} {ys : List V} {i : Nat} {n : Int} {y : V} (hn : ns.Nodup) (h1 : ns[i]? = some n) (hy : ys.length = i) : putK (kvsOf (ns.take i) ys) (Sum.inl n : Key) y = kvsOf (ns.take (i + 1)) (ys ++ [y]) := by
  have hi := (List.getElem?_eq_some_iff.mp h1).1
  have e1 : ys.take i = ys := List.take_of_length_le (by omega)
  have e2 : (ys ++ [y])[i]? = some y := by rw [List.getElem?_append_right (by omega), hy, Nat.sub_self]; rfl
  have e3 : (ys ++ [y]).take i = ys := by rw [List.take_append_of_le_length (by omega), e1]
  have e4 : (ys ++ [y]).take (i + 1) = ys ++ [y] := List.take_of_length_le (by rw [List.length_append]; simp; omega)
  have h := kvs_new (ys := ys) hn h1
  have t := kvs_take (ys := ys ++ [y]) h1 e2
  rw [e1] at h
  rw [e3, e4] at t
  unfold putK
  rw [h, if_neg (by decide), t]
section
variable {K : PySem.W.Frag} {σ : L2.St} {B H : Hp} {tA tv td : TE} {j : Nat} {vs : List Nat} {ns : List Int} {F : Int → PyData}
/-- the loop of {k: te for k in ..} -/
theorem dc_run {J : It} {G : Hp → Prop} {Y : Nat → Hp → V → Hp → Prop} {D : Addr} {Q : VK} (W : Walk J ns.length G Y) (hY : ∀ i Hi x Hy, Y i Hi x Hy → Hy = Hi ∧ ∃ n, ns[i]? = some n ∧ x = .int n) (hG : ∀ Bi Hi, Le [] B H Bi Hi → G Hi)
    (e : Ex B H) (hD : H D = none) (hn : ns.Nodup) (hz : ns.length ≤ 1000)
    (hw : ∀ x, wipe ((wipe σ vs).set j (some x)) vs = wipe σ vs) (g1 : ∀ x, ((wipe σ vs).set j (some x))[j]? = some (some x))
    (hv : ∀ (k : Int) B1 H1, Le [] B H B1 H1 → k ∈ ns → Ev K tv ((wipe σ vs).set j (some (.int k))) B1 H1 (F k))
    (q : ∀ v B' H', Le [] B H B' H' → (∃ a, v = .ref a ∧ H a = none) → Dq K B' v (effM ns F) → Q v H') :
    ∃ W : Nat → Nat → Hp → Prop, (∃ m, W 0 m (upd H D (.dK []))) ∧ ∀ i m H, W i m H →
      (J.stop i H ∧ Q (.ref D) H) ∨ (J.go i H ∧ ∃ Nx : Hp → Prop, (∀ H', Nx H' → ∃ m', m' < m ∧ W (i + 1) m' H') ∧ ∀ x H', J.yld i H x H' → gName j x (wipe σ vs) H' fun σ2 H2 => wipe σ2 vs = wipe σ vs ∧ tYes σ2 H2 fun b H3 =>
        if b = true then tVar j σ2 H3 fun y H4 => tv σ2 H4 fun z H5 => ∃ kvs k, y = kV k ∧ H5 D = some (.dK kvs) ∧ kvs.length < sizeLine ∧ Nx (upd H5 D (.dK (putK kvs k z))) else Nx H3) := by
  have hDb := none_of e hD
  have hsl : 1000 < sizeLine := by rw [sizeLine_eq]; decide
  refine ⟨fun i m Hi => m = ns.length - i ∧ i ≤ ns.length ∧ ∃ (Bi : Hp) (ys : List V), Le [] B H Bi Hi ∧ Bi D = none ∧ ys.length = i ∧ DqAll K Bi ys ((ns.take i).map F) ∧ Hi D = some (.dK (kvsOf (ns.take i) ys)), ⟨_, rfl, Nat.zero_le _, B, [], Le.made e hD, hDb, rfl, .nil, upd_same⟩, ?_⟩
  rintro i m Hi ⟨rfl, hi, Bi, ys, le, hb, hl, hq, hh⟩
  by_cases hlt : i < ns.length
  · have e1 : ns[i]? = some ns[i] := List.getElem?_eq_getElem hlt
    refine .inr ⟨W.goes i Hi hlt (hG _ _ le), fun Hn => ∃ (Bi : Hp) (ys : List V), Le [] B H Bi Hn ∧ Bi D = none ∧ ys.length = i + 1 ∧ DqAll K Bi ys ((ns.take (i + 1)).map F) ∧ Hn D = some (.dK (kvsOf (ns.take (i + 1)) ys)), fun Hn p => ⟨ns.length - (i + 1), by omega, rfl, hlt, p⟩, fun x Hy y => ?_⟩
    obtain ⟨rfl, n, en, rfl⟩ := hY _ _ _ _ (W.yields i Hi x Hy hlt (hG _ _ le) y)
    rw [e1] at en
    cases en
    refine ⟨hw _, yes_i ?_⟩
    rw [if_pos rfl]
    refine ⟨.int ns[i], g1 _, ?_⟩
    refine hv ns[i] Bi Hy le (List.getElem_mem hlt) Bi Hy (Le.refl le.h) _ fun z B5 H5 l5 hz5 => ?_
    have h5 := l5.k D _ (by simp) hh
    have b5 := l5.own hh hb
    refine ⟨_, .inl ns[i], rfl, h5, ?_, B5, ys ++ [z], ?_, b5, by simp [hl], ?_, ?_⟩
    · have : (kvsOf (ns.take i) ys).length ≤ 1000 := by
        unfold kvsOf
        rw [List.length_map, List.length_zip, List.length_take]
        omega
      omega
    · exact ((le.trans l5).any.trans (Le.put (M := [D]) l5.h b5 (by simp))).local hD
    · rw [List.take_add_one, e1]
      show DqAll K B5 (ys ++ [z]) ((ns.take i ++ [ns[i]]).map F)
      rw [List.map_append]
      exact (hq.mono l5.b).append (.cons hz5 .nil)
    · rw [upd_same, kvs_put_new hn e1 hl]
  · have ei : i = ns.length := by omega
    subst ei
    refine .inl ⟨W.stops Hi (hG _ _ le), ?_⟩
    rw [List.take_length] at hh hq
    have lg := le.give hD hb hh
    have hd := Dq.dct (K := K) (H := upd Bi D (.dK (kvsOf ns ys))) (a := D) (kvs := kvsOf ns ys) (ds := ns.map F) upd_same (by rw [kvs_snd hl.symm]; exact hq.mono (Evl.Ex.new hb))
    rw [kvs_zip hl.symm] at hd
    exact q (.ref D) _ Hi lg ⟨D, rfl, hD⟩ hd
/-- {k: te for k in list of ints} -/
theorem evN_dcL (hA : Ev K tA σ B H (.list (ns.map PyData.int))) (hn : ns.Nodup) (hz : ns.length ≤ 1000)
    (hv : ∀ (k : Int) B1 H1, Le [] B H B1 H1 → k ∈ ns → Ev K tv ((wipe σ vs).set j (some (.int k))) B1 H1 (F k))
    (hw : ∀ x, wipe ((wipe σ vs).set j (some x)) vs = wipe σ vs := by intro _; rfl) (g1 : ∀ x, ((wipe σ vs).set j (some x))[j]? = some (some x) := by intro _; rfl) :
    EvN K (tDc (iList K tA) (gName j) tYes (tVar j) tv vs) σ B H (effM ns F) := fun B0 H0 l0 Q q => by
  refine hA B0 H0 l0 _ fun u B1 H1 l1 hu => ?_
  cases hu with
  | lst hs hq =>
    rename_i a xs
    cases ofInts hq
    have h1 := l1.h _ _ hs
    refine ⟨a, rfl, ⟨_, .inl (.inl h1)⟩, fun D hD => ?_⟩
    have W := walk_list (K := K) (a := a) (xs := ns.map V.int)
    rw [List.length_map] at W
    refine dc_run (K := K) (B := B1) (H := H1) W (fun i Hi x Hy y => ⟨y.1, ?_⟩) (fun Bi Hi l => .inl (.inl (l.h _ _ (l.b _ _ hs)))) l1.h hD hn hz hw g1 (fun k B2 H2 l2 hk => hv k B2 H2 ((l0.trans l1).trans l2) hk) fun v B' H' l' hn' hd => ?_
    · have y2 := y.2
      rw [List.getElem?_map] at y2
      cases hk : ns[i]? with
      | none => rw [hk] at y2; cases y2
      | some n => rw [hk] at y2; exact ⟨n, rfl, (Option.some.inj y2).symm⟩
    · obtain ⟨a, ea, ha⟩ := hn'
      exact q v B' H' (l1.trans l') ⟨a, ea, l1.back ha⟩ hd
/-- {k: te for k in a dict} -/
theorem evN_dcK {F0 : Int → PyData} {i : Nat} {v : V} (hi : σ[i]? = some (some v)) (hv0 : Dq K B v (effM ns F0)) (e : Ex B H) (hn : ns.Nodup) (hz : ns.length ≤ 1000)
    (hv : ∀ (k : Int) B1 H1, Ex B1 H1 → k ∈ ns → Ev K tv ((wipe σ vs).set j (some (.int k))) B1 H1 (F k))
    (hw : ∀ x, wipe ((wipe σ vs).set j (some x)) vs = wipe σ vs := by intro _; rfl) (g1 : ∀ x, ((wipe σ vs).set j (some x))[j]? = some (some x) := by intro _; rfl) :
    EvN K (tLockE (tDc (iKeys (tVar i)) (gName j) tYes (tVar j) tv vs)) σ B H (effM ns F) := by
  unfold effM at hv0
  generalize hE : ns.map (fun n => (PyData.int n, F0 n)) = L at hv0
  cases hv0 with
  | dct h hq =>
    rename_i d kvs ds
    obtain ⟨z1, z2⟩ := zip_parts (by have := hq.length; rwa [List.length_map] at this) hE.symm
    refine evN_lock (e d _ h) fun od B1 H1 l1 hd1 => ?_
    have e1 := lock_le (od := od) l1.h hd1
    generalize hBl : dropB B1 d = Bl at e1 ⊢
    generalize hHl : upd H1 d (.frz od (.dK kvs)) = Hl at e1 ⊢
    have hdl : Hl d = some (.frz od (.dK kvs)) := by rw [← hHl]; exact upd_same
    clear hHl hBl
    intro B2 H2 l2 Q q
    have hd2 := l2.k d _ (by simp) hdl
    have kl : kvs.length = ns.length := by have := congrArg List.length z1; rwa [List.length_map, List.length_map] at this
    refine ⟨.ref d, hi, d, od, rfl, .inl ⟨kvs, hd2, fun D hD => ?_⟩⟩
    have W := walk_keys (d := d) (o := od) (kvs := kvs)
    rw [kl] at W
    refine dc_run (K := K) (B := B2) (H := H2) W (fun i Hi x Hy y => ?_) (fun Bi Hi l => l.k d _ (by simp) hd2) l2.h hD hn hz hw g1 (fun k B3 H3 l3 hk => hv k B3 H3 l3.h hk) fun v B' H' l' hn' hd => q v B' H' l' hn' hd
    obtain ⟨rfl, kk, yv, ekv, rfl⟩ := y
    have := congrArg (fun l => l[i]?) z1
    simp only [List.getElem?_map, ekv, Option.map_some] at this
    cases hk : ns[i]? with
    | none => rw [hk] at this; cases this
    | some n =>
      rw [hk] at this
      refine ⟨rfl, n, rfl, ?_⟩
      have e2 : kk = .inl n := Option.some.inj this
      rw [e2]
      rfl
end
/-! ## sorted(dict) -/
def rSortedDI : List V → Hp → VK → Prop := fun xs H Q => ∃ (a : Addr) (kvs : List (Key × V)) (ks : List Int), xs = [.ref a] ∧ Rd H a (.dK kvs) ∧ kvs.map (·.1) = ks.map Sum.inl ∧ ks.length < 64 ∧
    ∀ (ys : List Int) (p : Addr), ys.Perm ks → ys.Pairwise (· ≤ ·) → H p = none → Q (.ref p) (upd H p (.lst (ys.map V.int)))
theorem rc_sortedDI {K : PySem.W.Frag} {ns : List Int} {F : Int → PyData} (h1 : ns.Pairwise (· < ·)) (h2 : ns.length < 64) : RC K rSortedDI [effM ns F] (.list (ns.map PyData.int)) := fun B H vs e hvs Q q => by
  obtain ⟨v, rfl, hv⟩ := dq1 hvs
  unfold effM at hv
  generalize hE : ns.map (fun n => (PyData.int n, F n)) = L at hv
  cases hv with
  | dct h hq =>
    rename_i d kvs ds
    obtain ⟨z1, z2⟩ := zip_parts (by have := hq.length; rwa [List.length_map] at this) hE.symm
    refine ⟨d, kvs, ns, rfl, .inl (e _ _ h), z1, h2, fun ys p pm sr hp => ?_⟩
    have nd : ns.Nodup := List.Pairwise.imp (fun {a b} h => by omega) h1
    have ey : ys = ns := asc_eq (asc_of_sorted sr (pm.nodup_iff.mpr nd)) h1 fun k => pm.mem_iff
    subst ey
    exact q (.ref p) _ _ (Le.new e hp) (.lst upd_same (dqInts _))
end MA
namespace MA
open PySem PySem.Spec PyProof.Rows L2
section
variable {K : PySem.W.Frag} {σ : L2.St} {B H : Hp} {ta td tk : TE}
/-- an int as a test -/
theorem et_truI {i : Int} (h : Ev K ta σ B H (.int i)) : EvT (fun σ H Q => ta σ H fun x H' => ∃ k, TruV K x H' k ∧ Q k H') σ B H (i != 0) := fun B1 H1 l Q q => h B1 H1 l _ fun v B2 H2 l2 hv => by
  cases hv
  exact ⟨_, rfl, q B2 H2 l2⟩
/-- d[k] -/
theorem ev_dget {ns : List Int} {F : Int → PyData} {k : Int} (hd : Ev K td σ B H (effM ns F)) (hk : Ev K tk σ B H (.int k)) (hm : k ∈ ns) : Ev K (tDGet td tk) σ B H (F k) := fun B1 H1 l Q q =>
  hd B1 H1 l _ fun v B2 H2 l2 hv => by
    unfold effM at hv
    generalize hE : ns.map (fun n => (PyData.int n, F n)) = L at hv
    cases hv with
    | dct h hq =>
      rename_i a kvs ds
      refine hk B2 H2 (l.trans l2) _ fun w B3 H3 l3 hw => ?_
      cases hw
      have z := zip_val (K := K) (H := B3) k (hq.mono l3.b) hE.symm
      rw [if_pos hm] at z
      obtain ⟨y, e1, e2⟩ := z
      exact ⟨a, y, rfl, .inl ⟨kvs, .inl k, .inl (l3.h _ _ (l3.b _ _ h)), rfl, e1.symm⟩, q y B3 H3 (l2.trans l3) e2⟩
end
/-! ## repeated maps -/
def itM (m : Int → List Int) : Nat → Int → List Int
  | 0, n => [n]
  | t + 1, n => (itM m t n).flatMap m
theorem itM_one (m : Int → List Int) (n : Int) : itM m 1 n = m n := by
  show [n].flatMap m = m n
  rw [List.flatMap_cons, List.flatMap_nil, List.append_nil]
theorem itM_add (m : Int → List Int) (a : Nat) (n : Int) : ∀ b : Nat, (itM m a n).flatMap (itM m b) = itM m (a + b) n
  | 0 => by
    show (itM m a n).flatMap (fun n => [n]) = _
    induction itM m a n with
    | nil => rfl
    | cons x xs ih => rw [List.flatMap_cons, ih]; rfl
  | b + 1 => by
    show (itM m a n).flatMap (fun k => (itM m b k).flatMap m) = (itM m (a + b) n).flatMap m
    rw [← itM_add m a n b, List.flatMap_assoc]
theorem flat_perm {ns : List Int} {m1 m2 : Int → List Int} (h1 : (ns.flatMap m1).Perm ns) (h2 : (ns.flatMap m2).Perm ns) : (ns.flatMap fun n => (m1 n).flatMap m2).Perm ns := by
  rw [← List.flatMap_assoc]
  exact (List.Perm.flatMap_right m2 h1).trans h2
theorem itM_perm {ns : List Int} {m : Int → List Int} (h : (ns.flatMap m).Perm ns) : ∀ t : Nat, (ns.flatMap (itM m t)).Perm ns
  | 0 => by
    show (ns.flatMap fun n => [n]).Perm ns
    have : ns.flatMap (fun n : Int => [n]) = ns := by
      induction ns with
      | nil => rfl
      | cons x xs ih =>
        rw [List.flatMap_cons]
        show x :: xs.flatMap (fun n => [n]) = x :: xs
        congr 1
        clear h ih
        induction xs with
        | nil => rfl
        | cons y ys ih => rw [List.flatMap_cons, ih]; rfl
    rw [this]
  | t + 1 => flat_perm (itM_perm h t) h
theorem flat_one {ns : List Int} {m : Int → List Int} {n : Int} (hn : n ∈ ns) : (m n).length ≤ (ns.flatMap m).length := by
  induction ns with
  | nil => cases hn
  | cons a L ih =>
    rw [List.flatMap_cons, List.length_append]
    rcases List.mem_cons.mp hn with e | e
    · subst e; omega
    · have := ih e; omega
theorem flat_mem {ns : List Int} {m : Int → List Int} (h : (ns.flatMap m).Perm ns) {n k : Int} (hn : n ∈ ns) (hk : k ∈ m n) : k ∈ ns := h.mem_iff.mp (List.mem_flatMap.mpr ⟨n, hn, hk⟩)
theorem flat_congr {ns : List Int} {m m' : Int → List Int} (h : ∀ n ∈ ns, m n = m' n) : ns.flatMap m = ns.flatMap m' := by
  induction ns with
  | nil => rfl
  | cons a L ih => rw [List.flatMap_cons, List.flatMap_cons, h a (List.mem_cons_self ..), ih fun n hn => h n (List.mem_cons_of_mem _ hn)]
theorem effM_congr {ns : List Int} {F G : Int → PyData} (h : ∀ n ∈ ns, F n = G n) : effM ns F = effM ns G := by
  unfold effM
  rw [List.map_congr_left fun n hn => by rw [h n hn]]
end MA

set_option maxRecDepth 100000
set_option maxHeartbeats 2000000
namespace MA
open PySem PySem.Spec PyProof.Rows L2
section
variable {X : Cx}
/-- y = {k: v for .. in ..}, the name written while the comprehension's own scope still stands -/
theorem ps_setDc {i : Nat} {y : PySem.Str} {py : Pos} {kx vx tg iter : Expr} {ifs : List Expr} {scope : Scope} {own : List (PySem.Str × Nat)} {pos spos : Pos} {wi : TI} {g : TG} {tt : TT} {tk tv : TE} (hc : X.calm = true) (hN : X.N.Nodup) (hy : X.N[i]? = some y) (hyl : X.env.scope.names.lookup y = some .local)
    (hsw : swapsWith (.DictComp kx vx [⟨tg, iter, ifs, 0⟩] scope pos) (some (.Name y py)) spos.line X.env = pure true) (hi : PI X tg iter wi) (ok : BlkOk X.N X.env.scope scope own)
    (hg : ∀ (s : Shared) (H : Hp) (C : Addr) (cl : List (PySem.Str × Addr)) (fp : List Addr), PG (X.blk s H scope (compEnvC scope cl C X.env) fp) tg g) (ht : ∀ (s : Shared) (H : Hp) (C : Addr) (cl : List (PySem.Str × Addr)) (fp : List Addr), PTs (X.blk s H scope (compEnvC scope cl C X.env) fp) ifs tt)
    (hk : ∀ (s : Shared) (H : Hp) (C : Addr) (cl : List (PySem.Str × Addr)) (fp : List Addr), PE (X.blk s H scope (compEnvC scope cl C X.env) fp) kx tk)
    (he : ∀ (s : Shared) (H : Hp) (C : Addr) (cl : List (PySem.Str × Addr)) (fp : List Addr), PE (X.blk s H scope (compEnvC scope cl C X.env) fp) vx tv) (hs : ∀ x, foldedSetIterable iter X.env x = pure x := by intro _; rfl) :
    PS X (.Assign [.Name y py] (.DictComp kx vx [⟨tg, iter, ifs, 0⟩] scope pos) spos) (tAsg (tDc wi g tt tk tv (own.map (·.2))) (gName i)) := by
  refine ⟨fun pins s σ H D I h => ?_⟩
  rw [exec_Assign_Name_used _ _ _ _ hsw]
  refine wpAny_bind (wpAny_standAt (wpAny_bind ?_))
  show wpAny _ X.A (do let _ ← comprehension (.DictComp kx vx [⟨tg, iter, ifs, 0⟩] scope pos) scope X.env (firstIterPos [⟨tg, iter, ifs, 0⟩] pos) newDict false (eval iter X.env) (some (assign (.Name y py) X.env))) _ _ s
  have h : tDc wi g tt tk tv (own.map (·.2)) σ H (fun x H1 => gName i x σ H1 D.nx) := h
  refine wpAny_bind (thn (dc_core (Qf := fun _ s' => SP X pins D .next s') hc hN I hi ok hg ht hk he hs h fun L C s' m H' I' q hn f => ?_) fun _ s' hq => wpAny_pure (wpAny_pure hq))
  show wpAny _ _ (assign (.Name y py) X.env (.ref L)) _ _ _
  refine wpAny_assign_Name (store_ok2 (v := V.ref L) I' hN hy (.inl hyl) rfl (fun s2 I2 ⟨a, sb, ha⟩ => ?_) (.inr hyl))
  obtain ⟨f0, f1, f2, f3, f4, f5⟩ := f
  have haC : C ≠ a := by
    rcases ha with z | z
    · rw [z]; exact f1
    · exact fun e => f4 y a z e.symm
  refine ⟨m, hn.sameBut sb haC, fun h3 sb3 => ?_⟩
  exact ⟨_, H', I2.turned (t' := s2.toks) (fun b o hb e => (sb3.2 b hb).trans e) f0 f1 f3 f4 f5, q⟩
theorem sw_trueD {kx vx : Expr} {gs : List Comprehension} {scope : Scope} {pos py : Pos} {y : PySem.Str} {l : Nat} {env : Env} (hk : env.scope.kind = .function) (hy : env.scope.names.lookup y = some .local) (hl : (py.line == pos.line) = true)
    (ha : (scope.names.any fun (n, k) => n == y && (k == .local || k == .cell)) = false) : swapsWith (.DictComp kx vx gs scope pos) (some (.Name y py)) l env = pure true := by
  have ky : env.kindOf y = some .local := hy
  have hb : env.blockKind = .function := by unfold Env.blockKind; rw [hk]; rfl
  unfold swapsWith
  simp only [hb, ky, ha, Expr.pos, hl]
  rfl
theorem ps_lockA {st : Stmt} {t : TE} {i : Nat} (h : PS X st (tAsg t (gName i))) : PS X st (tAsg (tLockE t) (gName i)) := ps_lock h
end
end MA

set_option maxRecDepth 100000
set_option maxHeartbeats 2000000
namespace MA
open PySem PySem.Spec PyProof.Rows L2
/-! ## defs of two arguments and times=1 behind a star -/
structure DfT (K : PySem.W.Frag) (mg : PySem.Str → Option Value) (x : PySem.Str) (st : Stmt) (ps : List PySem.Str) : Prop where
  ex : ∃ f fd, FunD K x x (defArgs st) (defBody st) (defScope st) [] [("times", .int 1)] f fd ∧ mg x = some (.ref f) ∧ (∃ ds, Vals [.int 1] ds ∧ Binds K fd ps ds) ∧ KBn K fd ps (ps.length - 1) ["times"] (fun us ws => us ++ ws) (fun vs zs => vs ++ zs)
structure ClT (P : Program) (w : World) (K : PySem.W.Frag) (mg : PySem.Str → Option Value) (base : Heap) (CX : CXT) (k : Nat) (x : PySem.Str) (ps : List PySem.Str) (sp : Sp) : Prop where
  ex : ∃ f fd, FnOk P w K mg base CX k f fd ps sp ∧ mg x = some (.ref f) ∧ PySem.W.keepIn K (.ref f) = true ∧ (∃ ds, Vals [.int 1] ds ∧ Binds K fd ps ds) ∧ KBn K fd ps (ps.length - 1) ["times"] (fun us ws => us ++ ws) (fun vs zs => vs ++ zs)
section
variable {P : Program} {w : World} {K : PySem.W.Frag} {mg : PySem.Str → Option Value} {base : Heap}
theorem ClT.pu {x : PySem.Str} {st : Stmt} {ps N : List PySem.Str} {k : Nat} {Pre : List PyData → Prop} {Post : List PyData → PyData → Prop} (D : DfT K mg x st ps) (S : FnScope N ps (defScope st)) (hn : ∀ ds, Pre ds → ds.length = ps.length)
    (hb : ∀ (f : Addr) (cdv : Value) (A : Around) (outer : List Env) (s : Shared) (H : Hp) (vs : List V) (Q : VK) (E : XK) (B : Hp) (ds : List PyData), Room k (A.deeper (envOfC x (defScope st) s.heap.objs.size f cdv)) → Ex B H → DqAll K B vs ds → Pre ds →
      (∀ d, Post ds d → ∀ v B' H', Le [] B H B' H' → Dq K B' v d → Q v H') →
      ∃ t, PSs (cxOf CX0 P w K mg base N x (defScope st) f cdv A outer s H E).nox (defBody st) t ∧ t { nx := fun _ H' => Q .non H', rt := Q } (start N vs) H) : ClT P w K mg base CX0 (k + 1) x ps (Pu K Pre Post) := by
  obtain ⟨f, fd, F, hm, hbd, hkb⟩ := D.ex
  refine ⟨f, fd, F.ok (CX := CX0) S (pu_len hn) (fun cdv A outer s H vs Q E hr h => ?_), hm, F.kp, hbd, hkb⟩
  obtain ⟨B, ds, e, h1, h2, q⟩ := h
  obtain ⟨t, z, qq⟩ := hb f cdv A outer s H vs Q E B ds hr e h1 h2 q
  exact ⟨t, z.nox, qq⟩
theorem pe_callT {X : Cx} {CX : CXT} {k : Nat} {x : PySem.Str} {ps : List PySem.Str} {sp : Sp} {E : XK} {p pos : Pos} {e : Expr} {es : List Expr} {t : TA} (C : ClT X.prog X.w X.K X.mg X.base CX k x ps sp) (hr : Room k X.A) (hg : Gl X x) (hx : Passes CX X E)
    (ha : PA X (e :: es) t) (hdb : (x == ("__debug__" : PySem.Str)) = false := by decide) (he : starEach (e :: es) X.env = (false, eval e X.env) :: starEach es X.env := by rfl) (hpl : (backTo pos (starEach es X.env)).any (·.1) = false := by rfl) :
    PE X (.Call (.Name x p) (e :: es) [] pos) (tCall sp [.int 1] E t) := by
  obtain ⟨f, fd, F, hm, hk, ⟨ds, hv, hb⟩, _⟩ := C.ex
  exact pe_call F hr hg hm hk hb hv hx ha hdb he hpl
theorem pe_callTk {X : Cx} {CX : CXT} {k : Nat} {x : PySem.Str} {ps : List PySem.Str} {sp : Sp} {E : XK} {p pos : Pos} {e : Expr} {es : List Expr} {kws : List Keyword} {t tk : TA} (C : ClT X.prog X.w X.K X.mg X.base CX k x ps sp) (hr : Room k X.A) (hg : Gl X x) (hx : Passes CX X E)
    (ha : PA X (e :: es) t) (hkw : PK X kws tk) (hall : (backToKw pos (keywordEach kws X.env)).all (·.1.isSome) = true := by rfl) (hks : (backToKw pos (keywordEach kws X.env)).filterMap (·.1) = (["times"] : List PySem.Str) := by rfl)
    (hdb : (x == ("__debug__" : PySem.Str)) = false := by decide) (he : starEach (e :: es) X.env = (false, eval e X.env) :: starEach es X.env := by rfl)
    (hpl : ((backTo pos (starEach (e :: es) X.env)).any (·.1) || (backToKw pos (keywordEach kws X.env)).any (·.1.isNone)) = false := by rfl) :
    PE X (.Call (.Name x p) (e :: es) kws pos) (tCallN (ps.length - 1) 1 sp (fun vs zs => vs ++ zs) E t tk) := by
  obtain ⟨f, fd, F, hm, hk, _, hb⟩ := C.ex
  exact pe_callN F hr hg hm hk hb hx ha hkw hall hks hdb he hpl
variable {σ : L2.St} {B H : Hp} {ta tk : TA}
theorem ev_callT {Pre : List PyData → Prop} {Post : List PyData → PyData → Prop} {E : XK} {d : PyData} {ds : List PyData} (h : EvA K ta σ B H ds) (hp : Pre (ds ++ [.int 1])) (hd : ∀ x, Post (ds ++ [.int 1]) x → x = d) : Ev K (tCall (Pu K Pre Post) [.int 1] E ta) σ B H d := fun B1 H1 l Q q =>
  h B1 H1 l _ fun vs B2 H2 l2 hq => ⟨B2, _, l2.h, hq.append (.cons (.int 1) .nil), hp, fun x px v B' H' l3 hv => by
    rw [hd x px] at hv
    exact q v B' H' (l2.trans l3) hv⟩
theorem ev_callTk {Pre : List PyData → Prop} {Post : List PyData → PyData → Prop} {E : XK} {d z : PyData} {ds : List PyData} {n : Nat} (h : EvA K ta σ B H ds) (h2 : EvA K tk σ B H [z]) (hn : ds.length = n) (hp : Pre (ds ++ [z])) (hd : ∀ x, Post (ds ++ [z]) x → x = d) : Ev K (tCallN n 1 (Pu K Pre Post) (fun vs zs => vs ++ zs) E ta tk) σ B H d := fun B1 H1 l Q q =>
  h B1 H1 l _ fun vs B2 H2 l2 hq => h2 B2 H2 (l.trans l2) _ fun zs B3 H3 l3 hz => ⟨hq.length.trans hn, hz.length, B3, _, l3.h, (hq.mono l3.b).append hz, hp, fun x px v B' H' l4 hv => by
    rw [hd x px] at hv
    exact q v B' H' ((l2.trans l3).trans l4) hv⟩
end
end MA

set_option maxRecDepth 100000
set_option maxHeartbeats 2000000
namespace MA
open PySem PySem.Spec PyProof.Rows L2
section
variable {K : PySem.W.Frag} {g p : Addr} {σ : L2.St} {B H : Hp} {ta tb te : TE} {R R1 Rb : PyData → Prop} {a b c m : Nat} {D : Ends}
theorem w_append {i : Nat} {vs : List V} (hi : σ[i]? = some (some (.ref p))) (h : Ew K g c te σ B H R) (hm : m + c ≤ 1000000) (e : Ex B H) (w : Wl g m B H) (hp : B p = none) (hpl : H p = some (.lst vs)) (hpg : p ≠ g) (hz : vs.length < 100000)
    (q : ∀ d v B' H', R d → Le [p, g] B H B' H' → Wl g (m + c) B' H' → B' p = none → H' p = some (.lst (vs ++ [v])) → Dq K B' v d → D.nx σ H') : tDrop (tBM K "list" rAppend (tVar i) (tCons te tNil)) D σ H := by
  refine ⟨.ref p, hi, .inl ⟨rfl, vs, .inl (.inl hpl)⟩, ?_⟩
  refine h m B H hm (Le.refl e) w _ fun d v B' H' r l w' hv => ?_
  have hp' := l.own hpl hp
  have hpl' := l.k p _ (by simp [hpg]) hpl
  have hsl : 100000 < sizeLine := by rw [sizeLine_eq]; decide
  refine ⟨p, vs, v, rfl, rfl, hpl', by omega, ?_⟩
  have l2 : Le [p, g] B' H' B' (upd H' p (.lst (vs ++ [v]))) := Le.put l.h hp' (by simp)
  exact q d v B' _ r ((l.wk (by simp)).trans l2) (w'.put hpg) hp' upd_same hv
/-- lists of values of one kind, one behind the other -/
abbrev RL (R : PyData → Prop) (n : Nat) : PyData → Prop := fun d => ∃ ds, d = .list ds ∧ AllR R n ds
theorem ew_addL {n k : Nat} (ha : Ew K g a ta σ B H (RL R n)) (hb : Ew K g b tb σ B H (RL R k)) (hz : n + k ≤ 1000) : Ew K g (a + b) (tOp (rAddA K) ta tb) σ B H (RL R (n + k)) :=
  ew_op ha hb fun x y h1 h2 => by
    obtain ⟨ds, rfl, hl, hr⟩ := h1
    obtain ⟨es, rfl, hl2, hr2⟩ := h2
    refine ⟨.list (ds ++ es), rv_addL (size_ok (by show ds.length + es.length ≤ 100000; omega)), ds ++ es, rfl, by rw [List.length_append, hl, hl2], fun d hd => ?_⟩
    rcases List.mem_append.mp hd with z | z
    · exact hr d z
    · exact hr2 d z
theorem ew_lstR {ts : TA} {n : Nat} (h : EwA K g c ts σ B H (AllR R n)) (hz : n ≤ 1000) : Ew K g c (tLst ts) σ B H (RL R n) := ew_lst h fun ds r => size_ok (by rw [r.1]; show n ≤ 100000; omega)
/-- [x, y, ..][k] -/
theorem ew_pickR {n : Nat} {P : Int → Prop} (ha : Ew K g a ta σ B H (RL R n)) (hb : Ew K g b tb σ B H (RI P)) (hP : ∀ i, P i → 0 ≤ i ∧ i < n) : Ew K g (a + b) (tOp (rIx K) ta tb) σ B H R := ew_ixR ha hb hP
theorem wi_var {i : Nat} {k : Int} {P : Int → Prop} (h : σ[i]? = some (some (.int k))) (hk : P k) : Ew K g 0 (tVar i) σ B H (RI P) := (wi_of (i := k) fun B1 H1 l => ev_var h (.int k)).imp fun d r => by
  obtain ⟨j, e, rfl⟩ := r
  exact ⟨j, e, hk⟩
theorem wi_c {k : Int} {P : Int → Prop} (hk : P k) : Ew K g 0 (tC (.int k)) σ B H (RI P) := (wi_of (i := k) fun B1 H1 l => ev_c (.int k)).imp fun d r => by
  obtain ⟨j, e, rfl⟩ := r
  exact ⟨j, e, hk⟩
theorem wi_ev {k : Int} {P : Int → Prop} (h : ∀ B1 H1, Le [g] B H B1 H1 → Ev K te σ B1 H1 (.int k)) (hk : P k) : Ew K g 0 te σ B H (RI P) := (wi_of h).imp fun d r => by
  obtain ⟨j, e, rfl⟩ := r
  exact ⟨j, e, hk⟩
theorem wi_add {P1 P2 P : Int → Prop} (ha : Ew K g a ta σ B H (RI P1)) (hb : Ew K g b tb σ B H (RI P2)) (h : ∀ i j, P1 i → P2 j → P (i + j)) : Ew K g (a + b) (tOp (rAddA K) ta tb) σ B H (RI P) := wi_op (f := fun i j => i + j) ha hb fun i j h1 h2 => ⟨rv_addI, h i j h1 h2⟩
theorem wi_mod {P1 P2 P : Int → Prop} (ha : Ew K g a ta σ B H (RI P1)) (hb : Ew K g b tb σ B H (RI P2)) (h : ∀ i j, P1 i → P2 j → 0 < j ∧ P (i % j)) : Ew K g (a + b) (tOp (rI (fun _ j => 0 < j) fun i j => .int (i % j)) ta tb) σ B H (RI P) := wi_op (f := fun i j => i % j) ha hb fun i j h1 h2 => ⟨rv_int (C := fun _ j => 0 < j) (h i j h1 h2).1, (h i j h1 h2).2⟩
theorem ev_lstRg {n : Nat} (hn : n ≤ 1000) : Ev K (tLstRg (tRg1 (tC (.int (n : Nat))))) σ B H (.list (((List.range n).map fun (i : Nat) => (i : Int)).map PyData.int)) := fun B1 H1 l Q q => by
  refine ⟨(n : Nat), rfl, .of_le (by decide) (by omega) (by decide) (by omega), fun p hp => ?_⟩
  rw [rgV_nat]
  exact q (.ref p) _ _ (Le.new l.h hp) (.lst upd_same (dqInts _))
end
end MA

set_option maxRecDepth 100000
set_option maxHeartbeats 2000000
namespace MA
open PySem PySem.Spec PyProof.Rows L2
/-! ## a lock around a loop: own things may change within -/
theorem lock_backM {M : List Addr} {d : Addr} {kvs : List (Key × V)} {od : Obj} {B1 H1 B2 H2 : Hp} (e : Ex B1 H1) (hd : H1 d = some (.dK kvs)) (hM : d ∉ M) (l : Le M (dropB B1 d) (upd H1 d (.frz od (.dK kvs))) B2 H2) : H2 d = some (.frz od (.dK kvs)) ∧ Le M B1 H1 (backB B1 B2 d) (upd H2 d (.dK kvs)) ∧ Ex B2 (backB B1 B2 d) := by
  have b2 : B2 d = none := by
    cases z : B2 d with
    | none => rfl
    | some o =>
      have := l.n d (if_pos rfl) (by rw [z]; simp)
      rw [upd_same] at this
      cases this
  have dn : ∀ a, a ≠ d → dropB B1 d a = B1 a := fun a h => if_neg h
  have bn : ∀ a, a ≠ d → backB B1 B2 d a = B2 a := fun a h => if_neg h
  have bd : backB B1 B2 d d = B1 d := if_pos rfl
  have one : ∀ o, B1 d = some o → o = .dK kvs := fun o h => by
    have := e d o h
    rw [hd] at this
    exact (Option.some.inj this).symm
  refine ⟨l.k d _ hM upd_same, ⟨fun a o h => ?_, fun a o h => ?_, fun a o ha h => ?_, fun a h => ?_, fun a h1 h2 => ?_⟩, fun a o h => ?_⟩
  · by_cases z : a = d
    · subst z; rw [bd]; exact h
    · rw [bn a z]; exact l.b a o (by rw [dn a z]; exact h)
  · by_cases z : a = d
    · subst z
      rw [bd] at h
      rw [one o h, upd_same]
    · rw [bn a z] at h
      rw [upd_ne z]; exact l.h a o h
  · by_cases z : a = d
    · subst z
      rw [hd] at h
      rw [upd_same]; exact h
    · rw [upd_ne z]; exact l.k a o ha (by rw [upd_ne z]; exact h)
  · by_cases z : a = d
    · subst z; rw [upd_same]; simp
    · rw [upd_ne z]; exact l.t a (by rw [upd_ne z]; exact h)
  · by_cases z : a = d
    · subst z; rw [bd] at h2; exact absurd h1 h2
    · rw [bn a z] at h2
      have := l.n a (by rw [dn a z]; exact h1) h2
      rw [upd_ne z] at this
      exact this
  · by_cases z : a = d
    · subst z; rw [b2] at h; cases h
    · rw [bn a z]; exact h
section
variable {K : PySem.W.Frag} {σ : L2.St} {B H : Hp} {ns : List Int} {F : Int → PyData}
/-- may be told without the dict at d -/
def OffOk (K : PySem.W.Frag) (F : Int → PyData) : Prop := ∀ (B : Hp) (d : Addr) (kvs : List (Key × V)) (v : V) (n : Int), B d = some (.dK kvs) → Dq K B v (F n) → Dq K (dropB B d) v (F n)
theorem off_tup (m : Int → List Int) : OffOk K fun n => .tuple ((m n).map PyData.int) := fun B d kvs v n hd h => h.off hd
theorem off_int (f : Int → Int) : OffOk K fun n => .int (f n) := fun B d kvs v n hd h => by cases h; exact .int _
theorem off_bool (b : Int → Bool) : OffOk K fun n => .bool (b n) := fun B d kvs v n hd h => by cases h; exact .bl _
theorem OffOk.all (o : OffOk K F) {d : Addr} {kvs : List (Key × V)} (hd : B d = some (.dK kvs)) : ∀ {vs : List V} {ns : List Int}, DqAll K B vs (ns.map F) → DqAll K (dropB B d) vs (ns.map F)
  | _, [], h => by cases h; exact .nil
  | _, n :: ns, h => by
    cases h with
    | cons h q => exact .cons (o B d kvs _ n hd h) (OffOk.all o hd q)
/-- another dict stays -/
theorem OffOk.dict {F2 : Int → PyData} (o : OffOk K F2) {ns2 : List Int} {d : Addr} {kvs : List (Key × V)} (hd : B d = some (.dK kvs)) {v : V} (hne : v ≠ .ref d) (h : Dq K B v (effM ns2 F2)) : Dq K (dropB B d) v (effM ns2 F2) := by
  unfold effM at h ⊢
  generalize hE : ns2.map (fun n => (PyData.int n, F2 n)) = L at h ⊢
  cases h with
  | dct h hq =>
    rename_i a kvs2 ds
    obtain ⟨z1, z2⟩ := zip_parts (by have := hq.length; rwa [List.length_map] at this) hE.symm
    subst z2
    have : a ≠ d := fun z => hne (by rw [z])
    exact .dct (by show (if a = d then none else B a) = _; rw [if_neg this]; exact h) (o.all hd hq)
/-- for k in d, d a dict that stands for good -/
theorem q_forKt {j : Nat} {v : V} {td : TE} {M : List Addr} {tb tz : TS} {D : Ends} (htd : ∀ d Hl, v = .ref d → (∀ a, a ≠ d → Hl a = H a) → (∃ kvs, B d = some (.dK kvs)) → ∀ R : VK, R v Hl → td σ Hl R) (hv : Dq K B v (effM ns F)) (hoff : OffOk K F) (e : Ex B H) (hM : ∀ a ∈ M, B a = none) (hn : ns.Nodup)
    (I : Nat → L2.St → Hp → Hp → Prop)
    (h : ∀ d Bl Hl, v = .ref d → d ∉ M → (∃ kvs, B d = some (.dK kvs)) → Bl = dropB B d → Ex Bl Hl → (∀ a, a ≠ d → Hl a = H a) → (∃ kvs : List (Key × V), kvs.length = ns.length ∧ ∀ B' H', Le M Bl Hl B' H' → Rd H' d (.dK kvs)) →
      (∀ B' H', Le M Bl Hl B' H' → ∀ (σ' : L2.St) (i' j' : Nat) (n : Int), σ'[i']? = some (some v) → σ'[j']? = some (some (.int n)) → n ∈ ns → Ev K (tDGet (tVar i') (tVar j')) σ' B' H' (F n)) →
      I 0 σ Bl Hl ∧ (∀ k n σ' B' H' N D', ns[k]? = some n → Le M Bl Hl B' H' → I k σ' B' H' → D'.nx = N → (∀ σ3 B3 H3, Le M B' H' B3 H3 → I (k + 1) σ3 B3 H3 → N σ3 H3) → tb D' (σ'.set j (some (.int n))) H') ∧
      (∀ σ' B' H' B2 H2, Le M Bl Hl B' H' → I ns.length σ' B' H' → Le M B H B2 H2 → Ex B' B2 → (∀ a, a ≠ d → B2 a = B' a ∧ H2 a = H' a) → tz D σ' H2)) :
    tSeq (tLock (tFor (iKeys td) (gName j) tb)) tz D σ H := by
  have hv0 := hv
  unfold effM at hv
  generalize hE : ns.map (fun n => (PyData.int n, F n)) = L at hv
  cases hv with
  | dct hd hq =>
    rename_i d kvs ds
    obtain ⟨z1, z2⟩ := zip_parts (by have := hq.length; rwa [List.length_map] at this) hE.symm
    subst z2
    have hdM : d ∉ M := fun z => by rw [hM d z] at hd; cases hd
    have hdH := e d _ hd
    refine ⟨d, .dK kvs, hdH, trivial, fun od => ?_⟩
    have e1 := lock_le (od := od) e hdH
    have hq1 := hoff.all hd hq
    have kl : kvs.length = ns.length := by have := congrArg List.length z1; rwa [List.length_map, List.length_map] at this
    obtain ⟨h0, hs, hz⟩ := h d (dropB B d) (upd H d (.frz od (.dK kvs))) rfl hdM ⟨_, hd⟩ rfl e1 (fun a ha => upd_ne ha) ⟨kvs, kl, fun B' H' l => .inr ⟨od, l.k d _ hdM upd_same⟩⟩ (fun B' H' l σ' i' j' n hi' hj' hn' => by
      have hdl := l.k d _ hdM upd_same
      have zz := zip_val (K := K) (H := B') n (hq1.mono l.b) hE.symm
      rw [if_pos hn'] at zz
      obtain ⟨y, e3, e4⟩ := zz
      exact fun B3 H3 l3 Q q => ⟨.ref d, hi', .int n, hj', d, y, rfl, .inl ⟨kvs, .inl n, .inr ⟨od, l3.k d _ (by simp) hdl⟩, rfl, e3.symm⟩, q y B3 H3 (Le.refl l3.h) (e4.mono l3.b)⟩)
    refine htd d _ rfl (fun a ha => upd_ne ha) ⟨_, hd⟩ _ ⟨d, od, rfl, .inl ⟨kvs, upd_same, ?_⟩⟩
    have W := walk_keys (d := d) (o := od) (kvs := kvs)
    refine ⟨fun t m σ' H' => m = ns.length - t ∧ t ≤ ns.length ∧ ∃ B', Le M (dropB B d) (upd H d (.frz od (.dK kvs))) B' H' ∧ I t σ' B' H', ⟨_, rfl, Nat.zero_le _, _, Le.refl e1, h0⟩, ?_⟩
    rintro t m σ' H' ⟨rfl, ht, B', l, hI⟩
    have G : H' d = some (.frz od (.dK kvs)) := l.k d _ hdM upd_same
    by_cases hlt : t < ns.length
    · have en : ns[t]? = some ns[t] := List.getElem?_eq_getElem hlt
      refine .inr ⟨W.goes t H' (by omega) G, fun σ3 H3 => ∃ B3, Le M (dropB B d) (upd H d (.frz od (.dK kvs))) B3 H3 ∧ I (t + 1) σ3 B3 H3, fun σ3 H3 p => ⟨ns.length - (t + 1), by omega, rfl, hlt, p⟩, fun x Hy y => ?_⟩
      obtain ⟨rfl, kk, yv, ekv, rfl⟩ := W.yields t H' x Hy (by omega) G y
      have ekk : kk = .inl ns[t] := by
        have := congrArg (fun l => l[t]?) z1
        simp only [List.getElem?_map, ekv, en, Option.map_some] at this
        exact Option.some.inj this
      subst ekk
      exact hs t ns[t] σ' B' Hy _ _ en l hI rfl fun σ3 B3 H3 l3 hI3 => ⟨B3, l.trans l3, hI3⟩
    · have et : t = ns.length := by omega
      subst et
      obtain ⟨y1, y2, y3⟩ := lock_backM e hdH hdM l
      refine .inl ⟨by rw [← kl]; exact W.stops H' G, ?_⟩
      exact ⟨y1, hz σ' B' H' _ _ l hI y2 y3 fun a ha => ⟨if_neg ha, upd_ne ha⟩⟩
/-- for k in d, d a dict that stands for good -/
theorem q_forK {i j : Nat} {v : V} {M : List Addr} {tb tz : TS} {D : Ends} (hi : σ[i]? = some (some v)) (hv : Dq K B v (effM ns F)) (hoff : OffOk K F) (e : Ex B H) (hM : ∀ a ∈ M, B a = none) (hn : ns.Nodup)
    (I : Nat → L2.St → Hp → Hp → Prop)
    (h : ∀ d Bl Hl, v = .ref d → d ∉ M → (∃ kvs, B d = some (.dK kvs)) → Bl = dropB B d → Ex Bl Hl → (∀ a, a ≠ d → Hl a = H a) → (∃ kvs : List (Key × V), kvs.length = ns.length ∧ ∀ B' H', Le M Bl Hl B' H' → Rd H' d (.dK kvs)) →
      (∀ B' H', Le M Bl Hl B' H' → ∀ (σ' : L2.St) (i' j' : Nat) (n : Int), σ'[i']? = some (some v) → σ'[j']? = some (some (.int n)) → n ∈ ns → Ev K (tDGet (tVar i') (tVar j')) σ' B' H' (F n)) →
      I 0 σ Bl Hl ∧ (∀ k n σ' B' H' N D', ns[k]? = some n → Le M Bl Hl B' H' → I k σ' B' H' → D'.nx = N → (∀ σ3 B3 H3, Le M B' H' B3 H3 → I (k + 1) σ3 B3 H3 → N σ3 H3) → tb D' (σ'.set j (some (.int n))) H') ∧
      (∀ σ' B' H' B2 H2, Le M Bl Hl B' H' → I ns.length σ' B' H' → Le M B H B2 H2 → Ex B' B2 → (∀ a, a ≠ d → B2 a = B' a ∧ H2 a = H' a) → tz D σ' H2)) :
    tSeq (tLock (tFor (iKeys (tVar i)) (gName j) tb)) tz D σ H :=
  q_forKt (td := tVar i) (fun d Hl _ _ _ R r => ⟨v, hi, r⟩) hv hoff e hM hn I h
end
def rLenR : List V → Hp → VK → Prop := fun xs H Q => ∃ (a : Addr) (kvs : List (Key × V)), xs = [V.ref a] ∧ Rd H a (.dK kvs) ∧ Q (.int kvs.length) H
theorem cr_lenR {X : Cx} : CallR X (.builtin "len") rLenR := by
  intro pins s σ H xs us Q I r h
  obtain ⟨a, kvs, rfl, ha, q⟩ := h
  obtain ⟨u, rfl, ru⟩ := vals1 r
  cases ru
  exact d_len I ha fun t s' I' => ⟨.int kvs.length, H, I', ⟨t, rfl⟩, q⟩
/-! ## dicts of ours -/
structure OD (K : PySem.W.Frag) (p : Addr) (ns : List Int) (F : Int → PyData) (B H : Hp) : Prop where
  own : B p = none
  nd : ns.Nodup
  has : ∃ ys, ns.length = ys.length ∧ H p = some (.dK (kvsOf ns ys)) ∧ DqAll K B ys (ns.map F)
section
variable {K : PySem.W.Frag} {σ : L2.St} {B H B' H' : Hp} {p : Addr} {ns : List Int} {F : Int → PyData} {M : List Addr}
theorem OD.pure (x : OD K p ns F B H) (l : Le M B H B' H') (hp : p ∉ M) : OD K p ns F B' H' := by
  obtain ⟨ys, h1, h2, h3⟩ := x.has
  exact ⟨l.own h2 x.own, x.nd, ys, h1, l.k p _ hp h2, h3.mono l.b⟩
theorem OD.new (e : Ex B H) (hp : H p = none) : OD K p [] F B (upd H p (.dK [])) := ⟨none_of e hp, List.nodup_nil, [], rfl, upd_same, .nil⟩
theorem OD.congr {G : Int → PyData} (x : OD K p ns F B H) (h : ∀ n ∈ ns, F n = G n) : OD K p ns G B H := by
  obtain ⟨ys, h1, h2, h3⟩ := x.has
  refine ⟨x.own, x.nd, ys, h1, h2, ?_⟩
  rwa [← List.map_congr_left h]
theorem OD.give (x : OD K p ns F B H) : ∃ o, H p = some o ∧ Dq K (upd B p o) (.ref p) (effM ns F) := by
  obtain ⟨ys, h1, h2, h3⟩ := x.has
  refine ⟨_, h2, ?_⟩
  have hd := Dq.dct (K := K) (H := upd B p (.dK (kvsOf ns ys))) (a := p) (kvs := kvsOf ns ys) (ds := ns.map F) upd_same (by rw [kvs_snd h1]; exact h3.mono (Evl.Ex.new x.own))
  rw [kvs_zip h1] at hd
  exact hd
/-- d[k] -/
theorem OD.get (x : OD K p ns F B H) {i j : Nat} {n : Int} (hi : σ[i]? = some (some (.ref p))) (hj : σ[j]? = some (some (.int n))) (hn : n ∈ ns) : Ev K (tDGet (tVar i) (tVar j)) σ B H (F n) := by
  obtain ⟨ys, h1, h2, h3⟩ := x.has
  obtain ⟨t, ht⟩ := List.getElem?_of_mem hn
  obtain ⟨y, hy, hd⟩ := h3.get' (i := t) (d := F n) (by rw [List.getElem?_map, ht]; rfl)
  exact ev_dgetOwn hi hj h2 x.nd ht hy hd
theorem kvs_any {ns : List Int} {ys : List V} (hl : ns.length = ys.length) (n : Int) : ((kvsOf ns ys).any fun kv => decide (kv.1 = (Sum.inl n : Key))) = decide (n ∈ ns) := by
  induction ns generalizing ys with
  | nil => rfl
  | cons a ns ih =>
    cases ys with
    | nil => cases hl
    | cons y ys =>
      show (decide ((Sum.inl a : Key) = Sum.inl n) || (kvsOf ns ys).any fun kv => decide (kv.1 = (Sum.inl n : Key))) = _
      rw [ih (by simpa using hl)]
      by_cases z : a = n
      · subst z; simp
      · have : ¬ (Sum.inl a : Key) = Sum.inl n := fun h => z (Sum.inl.inj h)
        simp [this, z, Ne.symm z]
/-- d[k] = v -/
theorem OD.put (x : OD K p ns F B H) {n : Int} {v : V} {d : PyData} (hv : Dq K B v d) : ∃ kvs, H p = some (.dK kvs) ∧ kvs.length = ns.length ∧ OD K p (if n ∈ ns then ns else ns ++ [n]) (fun k => if k = n then d else F k) B (upd H p (.dK (putK kvs (.inl n : Key) v))) := by
  obtain ⟨ys, h1, h2, h3⟩ := x.has
  refine ⟨_, h2, by unfold kvsOf; rw [List.length_map, List.length_zip]; omega, x.own, ?_, ?_⟩
  · by_cases z : n ∈ ns
    · rw [if_pos z]; exact x.nd
    · rw [if_neg z]
      exact List.nodup_append.mpr ⟨x.nd, by simp, fun a ha b hb => by rw [List.mem_singleton.mp hb]; exact fun e => z (e ▸ ha)⟩
  · by_cases z : n ∈ ns
    · rw [if_pos z]
      obtain ⟨t, ht⟩ := List.getElem?_of_mem z
      obtain ⟨y, hy, _⟩ := h3.get' (i := t) (d := F n) (by rw [List.getElem?_map, ht]; rfl)
      refine ⟨ys.set t v, by rw [List.length_set]; exact h1, by rw [upd_same, kvs_put x.nd h1 ht], ?_⟩
      have q := DqAll.set hv t h3
      have : (ns.map F).set t d = ns.map fun k => if k = n then d else F k := by
        apply List.ext_getElem?
        intro u
        rw [List.getElem?_set, List.getElem?_map, List.getElem?_map]
        by_cases hu : t = u
        · subst hu
          rw [if_pos rfl, ht]
          have := (List.getElem?_eq_some_iff.mp ht).1
          simp [this]
        · rw [if_neg hu]
          cases hk : ns[u]? with
          | none => rfl
          | some k =>
            have : k ≠ n := fun e => hu (by
              subst e
              exact (List.getElem?_inj (List.getElem?_eq_some_iff.mp ht).1 x.nd).mp (ht.trans hk.symm))
            simp [this]
      rw [← this]
      exact q
    · rw [if_neg z]
      refine ⟨ys ++ [v], by simp [h1], ?_, ?_⟩
      · rw [upd_same]
        unfold putK
        rw [kvs_any h1, if_neg (by simp [z])]
        unfold kvsOf
        rw [List.zip_append h1, List.map_append]
        rfl
      · rw [List.map_append]
        refine DqAll.append ?_ (.cons ?_ .nil)
        · have this : (ns.map fun k => if k = n then d else F k) = ns.map F := List.map_congr_left fun k hk => if_neg fun (e : k = n) => z (e ▸ hk)
          rw [this]
          exact h3
        · show Dq K B v (if n = n then d else F n)
          rw [if_pos rfl]
          exact hv
/-- the statement d[k] = v -/
theorem q_dput {i j : Nat} {te : TE} {tz : TS} {D : Ends} {n : Int} {d : PyData} (x : OD K p ns F B H) (hl : ns.length ≤ 100000) (e : Ex B H) (ht : Ev K te σ B H d) (hi : σ[i]? = some (some (.ref p))) (hj : σ[j]? = some (some (.int n))) :
    (∀ B1 H1, Le [] B H B1 H1 → ∀ H', Le [p] B H B1 H' → OD K p (if n ∈ ns then ns else ns ++ [n]) (fun k => if k = n then d else F k) B1 H' → D.nx σ H') → tAsg te (gSub (tVar i) (tVar j) rSetD) D σ H := fun q => by
  refine ht B H (Le.refl e) _ fun v B1 H1 l1 hv => ?_
  have x1 := x.pure l1 (by simp)
  obtain ⟨kvs, h1, h2, h3⟩ := x1.put (n := n) hv
  have hsl : 100000 < sizeLine := by rw [sizeLine_eq]; decide
  refine ⟨.ref p, hi, .int n, hj, p, _, rfl, DPut.k (k := .inl n) h1 (by omega), ?_⟩
  exact q B1 H1 l1 _ (l1.any.trans (Le.put l1.h x1.own (by simp))) h3
theorem q_dputE {i : Nat} {te tk : TE} {tz : TS} {D : Ends} {n : Int} {d : PyData} (x : OD K p ns F B H) (hl : ns.length ≤ 100000) (e : Ex B H) (ht : Ev K te σ B H d) (hi : σ[i]? = some (some (.ref p))) (hk : Ev K tk σ B H (.int n)) :
    (∀ B1 H1, Le [] B H B1 H1 → ∀ H', Le [p] B H B1 H' → OD K p (if n ∈ ns then ns else ns ++ [n]) (fun k => if k = n then d else F k) B1 H' → D.nx σ H') → tAsg te (gSub (tVar i) tk rSetD) D σ H := fun q => by
  refine ht B H (Le.refl e) _ fun v B1 H1 l1 hv => ?_
  refine ⟨.ref p, hi, ?_⟩
  refine hk B1 H1 l1 _ fun u B2 H2 l2 hu => ?_
  cases hu
  have x1 := (x.pure l1 (by simp)).pure l2 (by simp)
  obtain ⟨kvs, h1, h2, h3⟩ := x1.put (n := n) (hv.mono l2.b)
  have hsl : 100000 < sizeLine := by rw [sizeLine_eq]; decide
  refine ⟨p, _, rfl, DPut.k (k := .inl n) h1 (by omega), ?_⟩
  exact q B2 H2 (l1.trans l2) _ ((l1.any.trans l2.any).trans (Le.put l2.h x1.own (by simp))) h3
theorem q_dputS {i j : Nat} {te : TE} {tz : TS} {D : Ends} {n : Int} {d : PyData} (x : OD K p ns F B H) (hl : ns.length ≤ 100000) (e : Ex B H) (ht : Ev K te σ B H d) (hi : σ[i]? = some (some (.ref p))) (hj : σ[j]? = some (some (.int n))) :
    (∀ B1 H1, Le [] B H B1 H1 → ∀ H', Le [p] B H B1 H' → OD K p (if n ∈ ns then ns else ns ++ [n]) (fun k => if k = n then d else F k) B1 H' → tz D σ H') → tSeq (tAsg te (gSub (tVar i) (tVar j) rSetD)) tz D σ H := fun q => q_dput (tz := tz) (D := { D with nx := tz D }) x hl e ht hi hj q
theorem OD.keys (x : OD K p ns F B H) : ∃ kvs, H p = some (.dK kvs) ∧ kvs.map (·.1) = ns.map Sum.inl := by
  obtain ⟨ys, h1, h2, h3⟩ := x.has
  refine ⟨_, h2, ?_⟩
  unfold kvsOf
  rw [List.map_map]
  have : ∀ {ns : List Int} {ys : List V}, ns.length = ys.length → (ns.zip ys).map ((fun kv : Key × V => kv.1) ∘ fun q : Int × V => ((Sum.inl q.1 : Key), q.2)) = ns.map Sum.inl := by
    intro ns
    induction ns with
    | nil => intro ys _; rfl
    | cons n ns ih =>
      intro ys h
      cases ys with
      | nil => cases h
      | cons y ys =>
        show Sum.inl n :: (ns.zip ys).map _ = _
        rw [ih (by simpa using h)]
        rfl
  exact this h1
/-- k in d, a dict of ours -/
theorem OD.isIn (x : OD K p ns F B H) (n : Int) : ∃ o, DGet H p (.int n) o ∧ o.isSome = decide (n ∈ ns) := by
  obtain ⟨ys, h1, h2, h3⟩ := x.has
  refine ⟨_, DGet.k (k := .inl n) h2, ?_⟩
  rw [← kvs_any h1 n, valV_any]
end
end MA

set_option maxRecDepth 100000
set_option maxHeartbeats 2000000
namespace MA
open PySem PySem.Spec PyProof.Rows L2
section
variable {K : PySem.W.Frag} {σ : L2.St} {B H : Hp} {te : TE} {p : Addr} {R : List Int} {D : Ends}
def rIns : V → List V → Hp → VK → Prop := fun x vs H Q => ∃ (l : Addr) (xs : List V) (i : Int) (y : V), x = .ref l ∧ vs = [.int i, y] ∧ H l = some (.lst xs) ∧ xs.length < sizeLine ∧ 0 ≤ i ∧ i < 2 ^ 63 ∧
    Q .non (upd H l (.lst (xs.take i.toNat ++ [y] ++ xs.drop i.toNat)))
/-- row.insert(row.index(b) + int(..), a), row a list of ours -/
theorem s_insAdd {i j l : Nat} {a b : Int} {k : Bool} (hi : σ[i]? = some (some (.ref p))) (hj : σ[j]? = some (some (.int b))) (hl : σ[l]? = some (some (.int a))) (hp : H p = some (.lst (R.map V.int))) (hb : B p = none) (hk : b ∈ R) (hx : Ev K te σ B H (.bool k)) (hlen : R.length ≤ 1000) (e : Ex B H)
    (q : ∀ B' H', Le [p] B H B' H' → B' p = none → H' p = some (.lst ((R.take (R.idxOf b + (if k then 1 else 0)) ++ [a] ++ R.drop (R.idxOf b + (if k then 1 else 0))).map V.int)) → D.nx σ H') :
    tDrop (tBM K "list" rIns (tVar i) (tCons (tOp (rAddA K) (tBM K "list" (rIndex K) (tVar i) (tCons (tVar j) tNil)) (tCB rInt1 (tCons te tNil))) (tCons (tVar l) tNil))) D σ H := by
  have hidx : R.idxOf b < R.length := List.idxOf_lt_length_of_mem hk
  have hsl : 100000 < sizeLine := by rw [sizeLine_eq]; decide
  refine ⟨.ref p, hi, .inl ⟨rfl, _, .inl (.inl hp)⟩, ?_⟩
  refine ⟨.ref p, hi, .inl ⟨rfl, _, .inl (.inl hp)⟩, .int b, hj, ?_⟩
  show rIndex K (.ref p) [.int b] H fun v H1 => tCB rInt1 (tCons te tNil) σ H1 fun y H2 => rAddA K v y H2 fun x H1 => tCons (tVar l) tNil σ H1 fun xs H2 => rIns (V.ref p) (x :: xs) H2 fun x H1 => D.nx σ H1
  refine idx_own (K := K) hp hk ?_
  refine (ev_cb (K := K) (rr := rInt1) (ea_cons hx ea_nil) rc_int1) B H (Le.refl e) _ fun w B' H' l' hw => ?_
  cases hw
  have hp' := l'.k p _ (by simp) hp
  have hb' := l'.own hp hb
  have en : ((R.idxOf b : Nat) : Int) + (if k = true then 1 else 0) = ((R.idxOf b + (if k = true then 1 else 0) : Nat) : Int) := by split <;> simp
  refine .inl ⟨_, _, rfl, rfl, ?_⟩
  show tCons (tVar l) tNil σ H' fun xs H2 => rIns (V.ref p) (.int (((R.idxOf b : Nat) : Int) + (if k = true then 1 else 0)) :: xs) H2 fun x H1 => D.nx σ H1
  rw [en]
  have hil : R.idxOf b + (if k = true then 1 else 0) ≤ R.length := by split <;> omega
  refine ⟨.int a, hl, p, _, _, .int a, rfl, rfl, hp', by rw [List.length_map]; omega, by omega, by omega, ?_⟩
  rw [Int.toNat_natCast]
  refine q B' _ (l'.any.trans (Le.put l'.h hb' (by simp))) hb' ?_
  rw [upd_same]
  simp only [List.map_append, List.map_take, List.map_drop, List.map_cons, List.map_nil]
end
end MA
namespace MA
open PySem PySem.Spec PyProof.Rows L2
section
variable {K : PySem.W.Frag} {σ : L2.St} {B H : Hp} {p : Addr} {ns : List Int} {F : Int → PyData}
/-- d[k] = v, k a new key -/
theorem q_dputN {i j : Nat} {te : TE} {tz : TS} {D : Ends} {n : Int} (x : OD K p ns F B H) (hl : ns.length ≤ 100000) (e : Ex B H) (ht : Ev K te σ B H (F n)) (hi : σ[i]? = some (some (.ref p))) (hj : σ[j]? = some (some (.int n))) (hn : n ∉ ns) :
    (∀ B1 H1, Le [p] B H B1 H1 → OD K p (ns ++ [n]) F B1 H1 → D.nx σ H1) → tAsg te (gSub (tVar i) (tVar j) rSetD) D σ H := fun q => by
  refine q_dput (tz := tz) x hl e ht hi hj fun B1 H1 l1 H2 l2 x2 => ?_
  rw [if_neg hn] at x2
  refine q B1 H2 l2 (x2.congr fun k hk => ?_)
  by_cases z : k = n
  · rw [if_pos z, z]
  · rw [if_neg z]
theorem nd_take {ns : List Int} {t : Nat} {n : Int} (hn : ns.Nodup) (h : ns[t]? = some n) : n ∉ ns.take t := fun hm => (nodup_iff ns).mpr hn t n h hm
theorem take_one {α : Type} {ns : List α} {t : Nat} {n : α} (h : ns[t]? = some n) : ns.take (t + 1) = ns.take t ++ [n] := by rw [List.take_add_one, h]; rfl
end
/-- the source of an item -/
def srcM (ns : List Int) (m : Int → List Int) (i : Int) : Int := (ns.find? fun n => decide (i ∈ m n)).getD i
theorem srcM_eq {ns : List Int} {m : Int → List Int} (h : (ns.flatMap m).Nodup) {n i : Int} (hn : n ∈ ns) (hi : i ∈ m n) : srcM ns m i = n := by
  unfold srcM
  induction ns with
  | nil => cases hn
  | cons a L ih =>
    rw [List.flatMap_cons, List.nodup_append] at h
    rw [List.find?_cons]
    by_cases z : i ∈ m a
    · simp only [z, decide_true, Option.getD_some]
      rcases List.mem_cons.mp hn with e | e
      · exact e.symm
      · exact absurd rfl (h.2.2 i z i (List.mem_flatMap.mpr ⟨n, e, hi⟩))
    · simp only [z, decide_false]
      rcases List.mem_cons.mp hn with e | e
      · exact absurd (e ▸ hi) z
      · exact ih h.2.1 e
end MA

set_option maxRecDepth 100000
set_option maxHeartbeats 2000000
namespace MA
open PySem PySem.Spec PyProof.Rows L2
section
variable {K : PySem.W.Frag} {σ : L2.St} {B H : Hp} {te : TE} {tt : TT} {d : Addr} {kvs : List (Key × V)} {ns : List Int}
/-- [te for k in d if tt], d at hand -/
theorem ev_lcKeys {i jk : Nat} {vs : List Nat} (f : Int → Bool) (G : Int → PyData) (hi : σ[i]? = some (some (.ref d))) (hd : H d = some (.dK kvs)) (hks : kvs.map (·.1) = ns.map Sum.inl) (hln : ns.length ≤ 1000)
    (ht : ∀ od B1 H1, Le [] B H B1 H1 → ∀ B2 H2, Le [] (dropB B1 d) (upd H1 d (.frz od (.dK kvs))) B2 H2 → ∀ n ∈ ns, EvT tt ((wipe σ vs).set jk (some (.int n))) B2 H2 (f n))
    (he : ∀ od B1 H1, Le [] B H B1 H1 → ∀ B2 H2, Le [] (dropB B1 d) (upd H1 d (.frz od (.dK kvs))) B2 H2 → ∀ n ∈ ns, f n = true → Ev K te ((wipe σ vs).set jk (some (.int n))) B2 H2 (G n))
    (hw : ∀ y, wipe ((wipe σ vs).set jk (some y)) vs = wipe σ vs := by intro _; rfl) :
    Ev K (tLockE (tLc (iKeys (tVar i)) (gName jk) tt te vs)) σ B H (.list ((ns.filter f).map G)) := by
  refine ev_lock hd fun od B1 H1 l1 hd1 => ?_
  have e1 := lock_le (od := od) l1.h hd1
  have ht' := ht od B1 H1 l1
  have he' := he od B1 H1 l1
  generalize hBl : dropB B1 d = Bl at e1 ht' he' ⊢
  generalize hHl : upd H1 d (.frz od (.dK kvs)) = Hl at e1 ht' he' ⊢
  have hdl : Hl d = some (.frz od (.dK kvs)) := by rw [← hHl]; exact upd_same
  clear hHl hBl
  intro B2 H2 l2 Q q
  have hd2 := l2.k d _ (by simp) hdl
  have kl : kvs.length = ns.length := by have := congrArg List.length hks; rwa [List.length_map, List.length_map] at this
  refine ⟨.ref d, hi, d, od, rfl, .inl ⟨kvs, hd2, fun D hD => ?_⟩⟩
  have hDb := none_of l2.h hD
  have hsl : 1000 < sizeLine := by rw [sizeLine_eq]; decide
  refine lc_it (walk_keys (d := d) (o := od) (kvs := kvs)) (fun i Hi => ∃ Bi ws, Le [] B2 H2 Bi Hi ∧ Bi D = none ∧ Hi D = some (.lst ws) ∧ DqAll K Bi ws (((ns.take i).filter f).map G)) ⟨B2, [], Le.made l2.h hD, hDb, upd_same, .nil⟩ (fun i Hi _ p => ?_) (fun i y Hi Hi' hlt p yy => ?_) (fun Hi p => ?_)
  · obtain ⟨Bi, ws, le, _⟩ := p
    exact le.k d _ (by simp) hd2
  · obtain ⟨rfl, kk, yv, ekv, rfl⟩ := yy
    obtain ⟨Bi, ws, le, hbi, hh, hq⟩ := p
    have hlt' : i < ns.length := by omega
    have en : ns[i]? = some ns[i] := List.getElem?_eq_getElem hlt'
    have ekk : kk = .inl ns[i] := by
      have := congrArg (fun l => l[i]?) hks
      simp only [List.getElem?_map, ekv, en, Option.map_some] at this
      exact Option.some.inj this
    subst ekk
    have hnm : ns[i] ∈ ns := List.getElem_mem hlt'
    have htk := take_one en
    refine ⟨hw _, ?_⟩
    refine ht' Bi Hi' (l2.trans le) ns[i] hnm Bi Hi' (Le.refl le.h) _ fun B3 H3 l3 => ?_
    have h3 := l3.k D _ (by simp) hh
    have b3 := l3.own hh hbi
    have q3 := hq.mono l3.b
    by_cases z : f ns[i] = true
    · rw [if_pos z]
      refine he' B3 H3 ((l2.trans le).trans l3) ns[i] hnm z B3 H3 (Le.refl l3.h) _ fun y B4 H4 l4 hy => ?_
      have h4 := l4.k D _ (by simp) h3
      have b4 := l4.own h3 b3
      have hwl : ws.length ≤ 1000 := by
        rw [hq.length, List.length_map]
        exact Nat.le_trans (List.length_filter_le _ _) (by rw [List.length_take]; omega)
      refine ⟨ws, h4, by omega, B4, ws ++ [y], ?_, b4, upd_same, ?_⟩
      · exact (((le.any.trans l3.any).trans l4.any).trans (Le.put (M := [D]) l4.h b4 (by simp))).local hD
      · rw [htk, List.filter_append, List.map_append]
        refine (q3.mono l4.b).append ?_
        have : List.filter f [ns[i]] = [ns[i]] := by simp [z]
        rw [this]
        exact .cons hy .nil
    · rw [if_neg z]
      refine ⟨B3, ws, le.trans l3, b3, h3, ?_⟩
      rw [htk, List.filter_append]
      have : List.filter f [ns[i]] = [] := by simp [z]
      rw [this, List.append_nil]
      exact q3
  · obtain ⟨Bi, ws, le, hbi, hh, hq⟩ := p
    rw [kl, List.take_length] at hq
    have lg := le.give hD hbi hh
    exact q (.ref D) _ Hi lg (.lst upd_same (hq.mono (Evl.Ex.new hbi)))
/-! ## a dict of ours whose values are lists of ours -/
structure SW (K : PySem.W.Frag) (p : Addr) (ns : List Int) (rows : List Addr) (m : Int → List Int) (B H : Hp) : Prop where
  own : B p = none
  has : H p = some (.dK (kvsOf ns (rows.map V.ref)))
  len : ns.length = rows.length
  nd : ns.Nodup
  rnd : rows.Nodup
  out : p ∉ rows
  row : ∀ (t : Nat) (n : Int) (r : Addr), ns[t]? = some n → rows[t]? = some r → H r = some (.lst ((m n).map V.int))
  free : ∀ r ∈ rows, B r = none
variable {p : Addr} {rows : List Addr} {m : Int → List Int}
theorem SW.pure {B' H' : Hp} (x : SW K p ns rows m B H) (l : Le [] B H B' H') : SW K p ns rows m B' H' :=
  ⟨l.own x.has x.own, l.k p _ (by simp) x.has, x.len, x.nd, x.rnd, x.out, fun t n r h1 h2 => l.k r _ (by simp) (x.row t n r h1 h2), fun r hr => by
    obtain ⟨t, ht⟩ := List.getElem?_of_mem hr
    obtain ⟨n, hn⟩ : ∃ n, ns[t]? = some n := ⟨_, List.getElem?_eq_getElem (by have := (List.getElem?_eq_some_iff.mp ht).1; have := x.len; omega)⟩
    exact l.own (x.row t n r hn ht) (x.free r hr)⟩
theorem SW.at (x : SW K p ns rows m B H) {n : Int} (hn : n ∈ ns) : ∃ (t : Nat) (r : Addr), ns[t]? = some n ∧ rows[t]? = some r ∧ r ∈ rows ∧ H r = some (.lst ((m n).map V.int)) ∧ B r = none ∧ valV (kvsOf ns (rows.map V.ref)) (.inl n : Key) = some (.ref r) := by
  obtain ⟨t, ht⟩ := List.getElem?_of_mem hn
  obtain ⟨r, hr⟩ : ∃ r, rows[t]? = some r := ⟨_, List.getElem?_eq_getElem (by have := (List.getElem?_eq_some_iff.mp ht).1; have := x.len; omega)⟩
  have hm := List.mem_of_getElem? hr
  exact ⟨t, r, ht, hr, hm, x.row t n r ht hr, x.free r hm, kvs_val x.nd ht (by rw [List.getElem?_map, hr]; rfl)⟩
/-- a row is changed -/
theorem SW.put (x : SW K p ns rows m B H) {t : Nat} {n : Int} {r : Addr} {R : List Int} (h1 : ns[t]? = some n) (h2 : rows[t]? = some r) : SW K p ns rows (fun k => if k = n then R else m k) B (upd H r (.lst (R.map V.int))) := by
  have hm := List.mem_of_getElem? h2
  have hrp : r ≠ p := fun z => x.out (z ▸ hm)
  refine ⟨x.own, by rw [upd_ne (Ne.symm hrp)]; exact x.has, x.len, x.nd, x.rnd, x.out, fun u k s h3 h4 => ?_, x.free⟩
  by_cases z : u = t
  · subst z
    rw [h1] at h3; cases h3
    rw [h2] at h4; cases h4
    rw [upd_same, if_pos rfl]
  · have hsr : s ≠ r := fun e => z (by
      subst e
      exact (List.getElem?_inj (List.getElem?_eq_some_iff.mp h4).1 x.rnd).mp (h4.trans h2.symm))
    have hkn : k ≠ n := fun e => z (by
      subst e
      exact (List.getElem?_inj (List.getElem?_eq_some_iff.mp h3).1 x.nd).mp (h3.trans h1.symm))
    rw [upd_ne hsr, if_neg hkn]
    exact x.row u k s h3 h4
theorem SW.congr {m' : Int → List Int} (x : SW K p ns rows m B H) (h : ∀ n ∈ ns, m n = m' n) : SW K p ns rows m' B H :=
  ⟨x.own, x.has, x.len, x.nd, x.rnd, x.out, fun t n r h1 h2 => by rw [← h n (List.mem_of_getElem? h1)]; exact x.row t n r h1 h2, x.free⟩
theorem SW.keys (x : SW K p ns rows m B H) : (kvsOf ns (rows.map V.ref)).map (·.1) = ns.map Sum.inl := by
  unfold kvsOf
  rw [List.map_map]
  have : ∀ {ns : List Int} {ys : List V}, ns.length = ys.length → (ns.zip ys).map ((fun kv : Key × V => kv.1) ∘ fun q : Int × V => ((Sum.inl q.1 : Key), q.2)) = ns.map Sum.inl := by
    intro ns
    induction ns with
    | nil => intro ys _; rfl
    | cons n ns ih =>
      intro ys h
      cases ys with
      | nil => cases h
      | cons y ys =>
        show Sum.inl n :: (ns.zip ys).map _ = _
        rw [ih (by simpa using h)]
        rfl
  exact this (by rw [List.length_map]; exact x.len)
/-- found[k] under the lock of found -/
theorem SW.locked (x : SW K p ns rows m B H) {od : Obj} {B1 H1 B2 H2 : Hp} (l1 : Le [] B H B1 H1) (l2 : Le [] (dropB B1 p) (upd H1 p (.frz od (.dK (kvsOf ns (rows.map V.ref))))) B2 H2) {n : Int} (hn : n ∈ ns) :
    ∃ r, H2 r = some (.lst ((m n).map V.int)) ∧ B2 r = none ∧ ∀ (B3 H3 : Hp) (σ' : L2.St) (i j : Nat), (∀ a o, H2 a = some o → H3 a = some o) → σ'[i]? = some (some (.ref p)) → σ'[j]? = some (some (.int n)) → ∀ Q : VK, Q (.ref r) H3 → tDGet (tVar i) (tVar j) σ' H3 Q := by
  have x1 := x.pure l1
  obtain ⟨t, r, h1, h2, h3, h4, h5, h6⟩ := x1.at hn
  have hrp : r ≠ p := fun z => x.out (z ▸ h3)
  have hl : (upd H1 p (.frz od (.dK (kvsOf ns (rows.map V.ref))))) r = some (.lst ((m n).map V.int)) := by rw [upd_ne hrp]; exact h4
  have hbl : dropB B1 p r = none := by show (if r = p then none else B1 r) = none; rw [if_neg hrp]; exact h5
  refine ⟨r, l2.k r _ (by simp) hl, l2.own hl hbl, fun B3 H3 σ' i j hk hi hj Q q => ?_⟩
  exact ⟨.ref p, hi, .int n, hj, p, .ref r, rfl, .inl ⟨_, .inl n, .inr ⟨od, hk p _ (l2.k p _ (by simp) upd_same)⟩, rfl, h6.symm⟩, q⟩
/-- [k for k in found if x in found[k]] -/
theorem SW.homes (x : SW K p ns rows m B H) {i ix jk : Nat} {vs : List Nat} {y : Int} (hln : ns.length ≤ 1000) (hi : σ[i]? = some (some (.ref p))) (e : Ex B H)
    (hi2 : ∀ z, ((wipe σ vs).set jk (some z))[i]? = some (some (.ref p))) (hx : ∀ z, ((wipe σ vs).set jk (some z))[ix]? = some (some (.int y))) (hk : ∀ z, ((wipe σ vs).set jk (some z))[jk]? = some (some z))
    (hw : ∀ y, wipe ((wipe σ vs).set jk (some y)) vs = wipe σ vs) :
    Ev K (tLockE (tLc (iKeys (tVar i)) (gName jk) (tTest (tOp (rIn K false) (tVar ix) (tDGet (tVar i) (tVar jk)))) (tVar jk) vs)) σ B H (.list ((ns.filter fun n => decide (y ∈ m n)).map PyData.int)) :=
  ev_lcKeys (fun n => decide (y ∈ m n)) PyData.int hi x.has x.keys hln (fun od B1 H1 l1 B2 H2 l2 n hn => by
    obtain ⟨r, h1, h2, h3⟩ := x.locked l1 l2 hn
    refine et_test (K := K) (ev_own (K := K) (p := r) (fun B3 hB3 hd he hb => ?_) (dqInts (m n)) l2.h h2 h1 sc_bool)
    exact ev_op (ev_var (hx _) (.int y)) (fun B4 H4 l4 Q q => h3 B4 H4 _ _ _ (fun a o h => l4.k a o (by simp) h) (hi2 _) (hk _) _ (q (.ref r) B4 H4 (Le.refl l4.h) (hd.mono l4.b))) rv_inLI) (fun od B1 H1 l1 B2 H2 l2 n hn _ => ev_var (hk _) (.int n)) hw
/-- a row was changed on the way -/
theorem SW.changed {B' H' : Hp} (x : SW K p ns rows m B H) {t : Nat} {n : Int} {r : Addr} {R : List Int} (h1 : ns[t]? = some n) (h2 : rows[t]? = some r) (l : Le [r] B H B' H') (hb : B' r = none) (hr : H' r = some (.lst (R.map V.int))) : SW K p ns rows (fun k => if k = n then R else m k) B' H' := by
  have hm := List.mem_of_getElem? h2
  have hrp : r ≠ p := fun z => x.out (z ▸ hm)
  refine ⟨l.own x.has x.own, l.k p _ (by simp [Ne.symm hrp]) x.has, x.len, x.nd, x.rnd, x.out, fun u k s h3 h4 => ?_, fun s hs => ?_⟩
  · by_cases z : u = t
    · subst z
      rw [h1] at h3; cases h3
      rw [h2] at h4; cases h4
      rw [hr, if_pos rfl]
    · have hsr : s ≠ r := fun e => z (by
        subst e
        exact (List.getElem?_inj (List.getElem?_eq_some_iff.mp h4).1 x.rnd).mp (h4.trans h2.symm))
      have hkn : k ≠ n := fun e => z (by
        subst e
        exact (List.getElem?_inj (List.getElem?_eq_some_iff.mp h3).1 x.nd).mp (h3.trans h1.symm))
      rw [if_neg hkn]
      exact l.k s _ (by simp [hsr]) (x.row u k s h3 h4)
  · by_cases z : s = r
    · subst z; exact hb
    · obtain ⟨u, hu⟩ := List.getElem?_of_mem hs
      obtain ⟨k, hk⟩ : ∃ k, ns[u]? = some k := ⟨_, List.getElem?_eq_getElem (by have := (List.getElem?_eq_some_iff.mp hu).1; have := x.len; omega)⟩
      exact l.own (x.row u k s hk hu) (x.free s hs)
/-- a row more -/
theorem SW.add (x : SW K p ns rows m B H) {n : Int} {r : Addr} (hn : n ∉ ns) (hr : H r = none) (e : Ex B H) :
    SW K p (ns ++ [n]) (rows ++ [r]) m B (upd (upd H r (.lst ((m n).map V.int))) p (.dK (putK (kvsOf ns (rows.map V.ref)) (.inl n : Key) (.ref r)))) := by
  have hrp : r ≠ p := fun z => by rw [z, x.has] at hr; cases hr
  have row' : ∀ s ∈ rows, ∃ o, H s = some o := fun s hs => by
    obtain ⟨u, hu⟩ := List.getElem?_of_mem hs
    obtain ⟨k, hk⟩ : ∃ k, ns[u]? = some k := ⟨_, List.getElem?_eq_getElem (by have := (List.getElem?_eq_some_iff.mp hu).1; have := x.len; omega)⟩
    exact ⟨_, x.row u k s hk hu⟩
  have hrr : r ∉ rows := fun hm => by
    obtain ⟨o, ho⟩ := row' r hm
    rw [hr] at ho; cases ho
  refine ⟨x.own, ?_, by simp [x.len], ?_, ?_, ?_, fun u k s h3 h4 => ?_, fun s hs => ?_⟩
  · rw [upd_same]
    unfold putK
    rw [kvs_any (by rw [List.length_map]; exact x.len), if_neg (by simp [hn])]
    unfold kvsOf
    rw [List.map_append, List.zip_append (by rw [List.length_map]; exact x.len), List.map_append]
    rfl
  · exact List.nodup_append.mpr ⟨x.nd, by simp, fun a ha b hb => by rw [List.mem_singleton.mp hb]; exact fun e => hn (e ▸ ha)⟩
  · exact List.nodup_append.mpr ⟨x.rnd, by simp, fun a ha b hb => by rw [List.mem_singleton.mp hb]; exact fun e => hrr (e ▸ ha)⟩
  · intro hm
    rcases List.mem_append.mp hm with z | z
    · exact x.out z
    · exact hrp (List.mem_singleton.mp z).symm
  · have hs : s ∈ rows ++ [r] := List.mem_of_getElem? h4
    have hsp : s ≠ p := fun z => by
      rcases List.mem_append.mp hs with w | w
      · exact x.out (z ▸ w)
      · exact hrp ((List.mem_singleton.mp w).symm.trans z)
    rw [upd_ne hsp]
    by_cases z : u < rows.length
    · rw [List.getElem?_append_left z] at h4
      rw [List.getElem?_append_left (by rw [x.len]; exact z)] at h3
      have : s ≠ r := fun w => hrr (w ▸ List.mem_of_getElem? h4)
      rw [upd_ne this]
      exact x.row u k s h3 h4
    · rw [List.getElem?_append_right (by omega)] at h4
      rw [List.getElem?_append_right (by rw [x.len]; omega)] at h3
      have e1 : u - rows.length = 0 := by
        have := (List.getElem?_eq_some_iff.mp h4).1
        simp at this
        omega
      rw [e1] at h4
      rw [x.len, e1] at h3
      cases h3
      cases h4
      exact upd_same
  · rcases List.mem_append.mp hs with z | z
    · exact x.free s z
    · rw [List.mem_singleton.mp z]
      exact none_of e hr
theorem filter_first {f : Int → Bool} {ns : List Int} {n : Int} (hn : n ∈ ns) (hf : f n = true) : ∃ h rest, ns.filter f = h :: rest ∧ h ∈ ns ∧ f h = true := by
  have hm : n ∈ ns.filter f := List.mem_filter.mpr ⟨hn, hf⟩
  cases z : ns.filter f with
  | nil => rw [z] at hm; cases hm
  | cons h rest =>
    have := List.mem_filter.mp (show h ∈ ns.filter f by rw [z]; exact List.mem_cons_self ..)
    exact ⟨h, rest, rfl, this.1, this.2⟩
end
end MA

set_option maxRecDepth 100000
set_option maxHeartbeats 2000000
namespace MA
open PySem PySem.Spec PyProof.Rows L2
/-! ## a def that shows values, called where no repr is under way -/
structure ClG (P : Program) (w : World) (K : PySem.W.Frag) (mg : PySem.Str → Option Value) (base : Heap) (k : Nat) (x : PySem.Str) (ps : List PySem.Str) (sp : Sp) : Prop where
  ex : ∃ f fd, FnG P w K mg base k f fd ps sp ∧ mg x = some (.ref f) ∧ PySem.W.keepIn K (.ref f) = true ∧ Binds K fd ps []
  len : ∀ vs H Q, sp vs H Q E0 → vs.length = ps.length
section
variable {P : Program} {w : World} {K : PySem.W.Frag} {mg : PySem.Str → Option Value} {base : Heap}
theorem ClG.of {x : PySem.Str} {st : Stmt} {ps N : List PySem.Str} {k : Nat} {sp : Sp} (D : Df K mg x st ps) (S : FnScope N ps (defScope st)) (len : ∀ vs H Q, sp vs H Q E0 → vs.length = ps.length)
    (hb : ∀ (f : Addr) (cdv : Value) (A : Around) (outer : List Env) (s : Shared) (H : Hp) (vs : List V) (Q : VK), A.guards = some [] → Room k (A.deeper (envOfC x (defScope st) s.heap.objs.size f cdv)) → sp vs H Q E0 →
      ∃ t, PSs (cxOf CX0 P w K mg base N x (defScope st) f cdv A outer s H E0).nox (defBody st) t ∧ t { nx := fun _ H' => Q .non H', rt := Q } (start N vs) H) : ClG P w K mg base (k + 1) x ps sp := by
  obtain ⟨f, fd, F, hm, hbd⟩ := D.ex
  exact ⟨⟨f, fd, fnG F S fun cdv A outer s H vs Q hg hr h => hb f cdv A outer s H vs Q hg hr h, hm, F.kp, hbd⟩, len⟩
theorem pe_callG {X : Cx} {k : Nat} {x : PySem.Str} {ps : List PySem.Str} {sp : Sp} {p pos : Pos} {e : Expr} {es : List Expr} {t : TA} (C : ClG X.prog X.w X.K X.mg X.base k x ps sp) (hgd : X.A.guards = some []) (hr : Room k X.A) (hg : Gl X x) (hx : Passes CX0 X E0)
    (ha : PA X (e :: es) t) (hdb : (x == ("__debug__" : PySem.Str)) = false := by decide) (he : starEach (e :: es) X.env = (false, eval e X.env) :: starEach es X.env := by rfl) (hpl : (backTo pos (starEach es X.env)).any (·.1) = false := by rfl) :
    PE X (.Call (.Name x p) (e :: es) [] pos) (tCall sp [] E0 t) := by
  obtain ⟨⟨f, fd, F, hm, hk, hb⟩, len⟩ := C
  refine ⟨fun pins s σ H Q I h => ?_⟩
  refine wpAny_Call_Name_kw (ld_glob I hg hm ?_ hdb)
  refine PySem.W.callWith_K (h₀ := X.base) I.ok.mod.kin hk (thn (ha.run pos pins s σ H _ I h) fun us s1 ⟨vs, H1, I1, r, q⟩ => ⟨I1.kIn, ?_⟩) he hpl
  replace q : sp (vs ++ []) H1 Q E0 := q
  rw [List.append_nil] at q
  have hl := len _ _ _ q
  have hlu : us.length = ps.length := by rw [← r.length]; exact hl
  have hbb := hb s1 us I1.kIn (by rw [List.append_nil]; exact hlu)
  rw [List.append_nil] at hbb
  refine wpAny_call (codeAny_mono (F X.A X.stack s1 H1 us vs Q hgd hr I1.env0 hbb r hl q) fun r s' hq => ?_)
  cases r with
  | error e => exact hx pins σ H1 s1 e s' I1 hq
  | ok fl =>
    cases fl with
    | ret u => exact I1.after hq
    | next => exact False.elim hq
    | brk => exact False.elim hq
    | cont => exact False.elim hq
end
end MA

set_option maxRecDepth 100000
set_option maxHeartbeats 2000000
namespace MA
open PySem PySem.Spec PyProof.Rows L2
/-! ## pure defs whose answer is a new object -/
def Pun (K : PySem.W.Frag) (Pre : List PyData → Prop) (Post : List PyData → PyData → Prop) : Sp := fun vs H Q _ => ∃ B ds, Ex B H ∧ DqAll K B vs ds ∧ Pre ds ∧ ∀ d, Post ds d → ∀ v B' H', Le [] B H B' H' → (∃ a, v = .ref a ∧ H a = none) → Dq K B' v d → Q v H'
section
variable {P : Program} {w : World} {K : PySem.W.Frag} {mg : PySem.Str → Option Value} {base : Heap}
theorem pun_len {Pre : List PyData → Prop} {Post : List PyData → PyData → Prop} {n : Nat} (hn : ∀ ds, Pre ds → ds.length = n) (vs : List V) (H : Hp) (Q : VK) (E : XK) (h : Pun K Pre Post vs H Q E) : vs.length = n := by
  obtain ⟨B, ds, _, h1, h2, _⟩ := h
  rw [h1.length, hn ds h2]
theorem Cl.pun {x : PySem.Str} {st : Stmt} {ps N : List PySem.Str} {k : Nat} {Pre : List PyData → Prop} {Post : List PyData → PyData → Prop} (D : Df K mg x st ps) (S : FnScope N ps (defScope st)) (hn : ∀ ds, Pre ds → ds.length = ps.length)
    (hb : ∀ (f : Addr) (cdv : Value) (A : Around) (outer : List Env) (s : Shared) (H : Hp) (vs : List V) (Q : VK) (E : XK) (B : Hp) (ds : List PyData), Room k (A.deeper (envOfC x (defScope st) s.heap.objs.size f cdv)) → Ex B H → DqAll K B vs ds → Pre ds →
      (∀ d, Post ds d → ∀ v B' H', Le [] B H B' H' → (∃ a, v = .ref a ∧ H a = none) → Dq K B' v d → Q v H') →
      ∃ t, PSs (cxOf CX0 P w K mg base N x (defScope st) f cdv A outer s H E).nox (defBody st) t ∧ t { nx := fun _ H' => Q .non H', rt := Q } (start N vs) H) : Cl P w K mg base CX0 (k + 1) x ps (Pun K Pre Post) :=
  Cl.of D S (pun_len hn) fun f cdv A outer s H vs Q E hr h => by
    obtain ⟨B, ds, e, h1, h2, q⟩ := h
    exact hb f cdv A outer s H vs Q E B ds hr e h1 h2 q
theorem ClT.pun {x : PySem.Str} {st : Stmt} {ps N : List PySem.Str} {k : Nat} {Pre : List PyData → Prop} {Post : List PyData → PyData → Prop} (D : DfT K mg x st ps) (S : FnScope N ps (defScope st)) (hn : ∀ ds, Pre ds → ds.length = ps.length)
    (hb : ∀ (f : Addr) (cdv : Value) (A : Around) (outer : List Env) (s : Shared) (H : Hp) (vs : List V) (Q : VK) (E : XK) (B : Hp) (ds : List PyData), Room k (A.deeper (envOfC x (defScope st) s.heap.objs.size f cdv)) → Ex B H → DqAll K B vs ds → Pre ds →
      (∀ d, Post ds d → ∀ v B' H', Le [] B H B' H' → (∃ a, v = .ref a ∧ H a = none) → Dq K B' v d → Q v H') →
      ∃ t, PSs (cxOf CX0 P w K mg base N x (defScope st) f cdv A outer s H E).nox (defBody st) t ∧ t { nx := fun _ H' => Q .non H', rt := Q } (start N vs) H) : ClT P w K mg base CX0 (k + 1) x ps (Pun K Pre Post) := by
  obtain ⟨f, fd, F, hm, hbd, hkb⟩ := D.ex
  refine ⟨f, fd, F.ok (CX := CX0) S (pun_len hn) (fun cdv A outer s H vs Q E hr h => ?_), hm, F.kp, hbd, hkb⟩
  obtain ⟨B, ds, e, h1, h2, q⟩ := h
  obtain ⟨t, z, qq⟩ := hb f cdv A outer s H vs Q E B ds hr e h1 h2 q
  exact ⟨t, z.nox, qq⟩
variable {σ : L2.St} {B H : Hp} {ts tk : TA}
theorem evN_callU {Pre : List PyData → Prop} {Post : List PyData → PyData → Prop} {E : XK} {d : PyData} {ds : List PyData} (h : EvA K ts σ B H ds) (hp : Pre ds) (hd : ∀ x, Post ds x → x = d) : EvN K (tCall (Pun K Pre Post) [] E ts) σ B H d := fun B1 H1 l Q q =>
  h B1 H1 l _ fun vs B2 H2 l2 hq => ⟨B2, ds, l2.h, by rw [List.append_nil]; exact hq, hp, fun x px v B' H' l3 hn hv => by
    rw [hd x px] at hv
    obtain ⟨a, ea, ha⟩ := hn
    exact q v B' H' (l2.trans l3) ⟨a, ea, l2.back ha⟩ hv⟩
theorem evN_callT {Pre : List PyData → Prop} {Post : List PyData → PyData → Prop} {E : XK} {d : PyData} {ds : List PyData} (h : EvA K ts σ B H ds) (hp : Pre (ds ++ [.int 1])) (hd : ∀ x, Post (ds ++ [.int 1]) x → x = d) : EvN K (tCall (Pun K Pre Post) [.int 1] E ts) σ B H d := fun B1 H1 l Q q =>
  h B1 H1 l _ fun vs B2 H2 l2 hq => ⟨B2, _, l2.h, hq.append (.cons (.int 1) .nil), hp, fun x px v B' H' l3 hn hv => by
    rw [hd x px] at hv
    obtain ⟨a, ea, ha⟩ := hn
    exact q v B' H' (l2.trans l3) ⟨a, ea, l2.back ha⟩ hv⟩
theorem evN_callTk {Pre : List PyData → Prop} {Post : List PyData → PyData → Prop} {E : XK} {d z : PyData} {ds : List PyData} {n : Nat} (h : EvA K ts σ B H ds) (h2 : EvA K tk σ B H [z]) (hn : ds.length = n) (hp : Pre (ds ++ [z])) (hd : ∀ x, Post (ds ++ [z]) x → x = d) : EvN K (tCallN n 1 (Pun K Pre Post) (fun vs zs => vs ++ zs) E ts tk) σ B H d := fun B1 H1 l Q q =>
  h B1 H1 l _ fun vs B2 H2 l2 hq => h2 B2 H2 (l.trans l2) _ fun zs B3 H3 l3 hz => ⟨hq.length.trans hn, hz.length, B3, _, l3.h, (hq.mono l3.b).append hz, hp, fun x px v B' H' l4 hnw hv => by
    rw [hd x px] at hv
    obtain ⟨a, ea, ha⟩ := hnw
    exact q v B' H' ((l2.trans l3).trans l4) ⟨a, ea, (l2.trans l3).back ha⟩ hv⟩
variable {D : Ends} {tz : TS} {te : TE} {d : PyData}
theorem s_retN (h : EvN K te σ B H d) (e : Ex B H) (q : ∀ v B' H', Le [] B H B' H' → (∃ a, v = .ref a ∧ H a = none) → Dq K B' v d → D.rt v H') : tRet te D σ H := h B H (Le.refl e) _ q
theorem q_setN {i : Nat} (h : EvN K te σ B H d) (e : Ex B H) (q : ∀ v B' H', Le [] B H B' H' → (∃ a, v = .ref a ∧ H a = none) → Dq K B' v d → tz D (σ.set i (some v)) H') : tSeq (tAsg te (gName i)) tz D σ H := h B H (Le.refl e) _ q
theorem s_setN {i : Nat} (h : EvN K te σ B H d) (e : Ex B H) (q : ∀ v B' H', Le [] B H B' H' → (∃ a, v = .ref a ∧ H a = none) → Dq K B' v d → D.nx (σ.set i (some v)) H') : tAsg te (gName i) D σ H := h B H (Le.refl e) _ q
end
end MA

set_option maxRecDepth 100000
set_option maxHeartbeats 2000000
namespace MA
open PySem PySem.Spec PyProof.Rows L2
section
variable {K : PySem.W.Frag} {p : Addr} {σ : L2.St} {B H : Hp} {te tk : TE} {d : PyData} {D : Ends} {tz : TS} {i : Nat} {vs : List V} {ns : List Int} {F : Int → PyData} {n : Int}
theorem s_appendN (hi : σ[i]? = some (some (.ref p))) (h : EvN K te σ B H d) (e : Ex B H) (hp : B p = none) (hpl : H p = some (.lst vs)) (hz : vs.length < 100000)
    (q : ∀ v B' H', (∃ a, v = .ref a ∧ H a = none) → Le [p] B H B' H' → B' p = none → H' p = some (.lst (vs ++ [v])) → Dq K B' v d → D.nx σ H') : tDrop (tBM K "list" rAppend (tVar i) (tCons te tNil)) D σ H := by
  refine ⟨.ref p, hi, .inl ⟨rfl, vs, .inl (.inl hpl)⟩, ?_⟩
  refine h B H (Le.refl e) _ fun v B' H' l hn hv => ?_
  have hp' := l.own hpl hp
  have hpl' := l.k p _ (by simp) hpl
  have hsl : 100000 < sizeLine := by rw [sizeLine_eq]; decide
  refine ⟨p, vs, v, rfl, rfl, hpl', by omega, ?_⟩
  exact q v B' _ hn (l.any.trans (Le.put l.h hp' (by simp))) hp' upd_same hv
theorem at_last {vs : List V} {n : Nat} {v : V} (hl : vs.length = n + 1) (h : vs[n]? = some v) : atI vs (-1) = some v := by
  unfold atI ixN
  rw [if_neg (by decide), hl, if_pos (by omega)]
  show vs[_]? = _
  have : (-1 + ((n + 1 : Nat) : Int)).toNat = n := by omega
  rw [this]
  exact h
theorem q_dputES (x : OD K p ns F B H) (hl : ns.length ≤ 100000) (e : Ex B H) (ht : Ev K te σ B H d) (hi : σ[i]? = some (some (.ref p))) (hk : Ev K tk σ B H (.int n)) :
    (∀ B1 H1, Le [] B H B1 H1 → ∀ H', Le [p] B H B1 H' → OD K p (if n ∈ ns then ns else ns ++ [n]) (fun k => if k = n then d else F k) B1 H' → tz D σ H') → tSeq (tAsg te (gSub (tVar i) tk rSetD)) tz D σ H := fun q => q_dputE (tz := tz) (D := { D with nx := tz D }) x hl e ht hi hk q
/-- a dict that was handed back becomes ours -/
theorem od_of {m : Int → List Int} (hn : ns.Nodup) (e : Ex B H) (h : Dq K B (.ref p) (effM ns fun n => .tuple ((m n).map PyData.int))) : OD K p ns (fun n => .tuple ((m n).map PyData.int)) (dropB B p) H := by
  unfold effM at h
  generalize hE : ns.map (fun n => (PyData.int n, PyData.tuple ((m n).map PyData.int))) = L at h
  cases h with
  | dct hd hq =>
    rename_i kvs ds
    obtain ⟨z1, z2⟩ := zip_parts (by have := hq.length; rwa [List.length_map] at this) hE.symm
    subst z2
    refine ⟨if_pos rfl, hn, kvs.map (·.2), ?_, ?_, (off_tup m).all hd hq⟩
    · have := congrArg List.length z1
      rw [List.length_map, List.length_map] at this
      rw [List.length_map, this]
    · rw [kvs_ofParts z1]
      exact e _ _ hd
end
end MA

set_option maxRecDepth 100000
set_option maxHeartbeats 2000000
namespace MA
open PySem PySem.Spec PyProof.Rows L2
/-! ## == and != of dicts from ints to tuples of ints, the keys alike -/
def sameM (ns : List Int) (m m' : Int → List Int) : Bool := ns.all fun n => decide (m n = m' n)
def rEqM (K : PySem.W.Frag) (neg : Bool) : R2 := fun x y H Q => ∃ (B : Hp) (ns : List Int) (m m' : Int → List Int), Ex B H ∧ Dq K B x (effM ns fun n => .tuple ((m n).map PyData.int)) ∧ Dq K B y (effM ns fun n => .tuple ((m' n).map PyData.int)) ∧ Q (.bl (xor neg (sameM ns m m'))) H
section
variable {X : Cx} {pins : List (Addr × Obj)} {σ : L2.St} {B H : Hp} {s : Shared}
theorem dp_of {v : V} {ns : List Int} (e : Ex B H) (h : Dq X.K B v (.tuple (ns.map PyData.int))) : Dp X.K H v (.tuple (ns.map PyData.int)) := by
  cases h with
  | tup h1 q1 =>
    cases ofInts q1
    exact .tup (Evl.ex_t e h1) (dpInts _)
theorem hits_M (I : Inv X pins σ H s) (e : Ex B H) {A : Around} (hu : A.in1.units + 64 < cLine) {lvs : List (Key × V)} {vb : List (Key × Value)} (rb : KV lvs vb) {ns : List Int} {m m' : Int → List Int} (hval : ∀ n ∈ ns, ∃ z, valV lvs (.inl n : Key) = some z ∧ Dq X.K B z (.tuple ((m' n).map PyData.int))) {ks : List (Key × V)} {va : List (Key × Value)} (ra : KV ks va) :
    ∀ {ns' : List Int}, ks.map (·.1) = ns'.map Sum.inl → DqAll X.K B (ks.map (·.2)) (ns'.map fun n => .tuple ((m n).map PyData.int)) → (∀ n ∈ ns', n ∈ ns) → PySem.W.KeqHits A.in1 s vb va (sameM ns' m m') := by
  unfold KV at ra
  induction ra with
  | nil =>
    intro ns' h _ _
    cases ns' with
    | nil => exact .nil
    | cons _ _ => cases h
  | @cons p q ps qs h t ih =>
    intro ns' hk hq hsub
    cases ns' with
    | nil => cases hk
    | cons n rest =>
      have hk1 : p.1 = .inl n := (List.cons.inj hk).1
      cases hq with
      | cons hq1 hq2 =>
        obtain ⟨h1, h2⟩ := h
        obtain ⟨z, hz, hzd⟩ := hval n (hsub n (List.mem_cons_self ..))
        have rr : RelO (some z) (valueAt vb (.inl n : Key)) := by rw [← hz]; exact rb.val _
        obtain ⟨y, hy, ry⟩ := rr.some_of
        obtain ⟨k, v⟩ := q
        have h1' : p.1 = k := h1
        rw [hk1] at h1'
        subst h1'
        obtain ⟨as, r1⟩ := Dp.reads I _ _ _ (dp_of e hq1) h2
        obtain ⟨bs, r2⟩ := Dp.reads I _ _ _ (dp_of e hzd) ry
        have x := PySem.W.keq_at (A := A) r1 r2 (shaped_T _) (shaped_T _) hu
        have ev : PyData.eqv (.tuple ((m n).map PyData.int)) (.tuple ((m' n).map PyData.int)) = decide (m n = m' n) := by simp only [PyData.eqv]; exact eqv_ints _ _
        rw [ev] at x
        have hr := ih (List.cons.inj hk).2 hq2 fun j hj => hsub j (List.mem_cons_of_mem _ hj)
        have es : sameM (n :: rest) m m' = (decide (m n = m' n) && sameM rest m m') := by unfold sameM; rw [List.all_cons]
        rw [es]
        exact .hit hy x hr
theorem eqM_parts {x y : V} {v u : Value} {ns : List Int} {m m' : Int → List Int} (I : Inv X pins σ H s) (e : Ex B H) (hu : X.A.units + 65 < cLine) (hx : Dq X.K B x (effM ns fun n => .tuple ((m n).map PyData.int))) (hy : Dq X.K B y (effM ns fun n => .tuple ((m' n).map PyData.int))) (rx : RelV x v) (ry : RelV y u) :
    ∃ (a b : Addr) (va vb : List (Key × Value)), v = .ref a ∧ u = .ref b ∧ (a == sysModules) = false ∧ (b == sysModules) = false ∧ s.heap.DictOf (mixKind X.prog X.w) a va ∧ s.heap.DictOf (mixKind X.prog X.w) b vb ∧ va.length = vb.length ∧ PySem.W.KeqHits X.A.in1 s vb va (sameM ns m m') := by
  unfold effM at hx hy
  generalize hE : ns.map (fun n => (PyData.int n, PyData.tuple ((m n).map PyData.int))) = L at hx
  generalize hE2 : ns.map (fun n => (PyData.int n, PyData.tuple ((m' n).map PyData.int))) = L2 at hy
  cases hx with
  | dct hd hq =>
    rename_i a kvs ds
    cases hy with
    | dct hd2 hq2 =>
      rename_i b lvs es
      obtain ⟨z1, z2⟩ := zip_parts (by have := hq.length; rwa [List.length_map] at this) hE.symm
      have hv := fun n => zip_val (K := X.K) (H := B) n hq2 hE2.symm
      obtain ⟨z3, z4⟩ := zip_parts (by have := hq2.length; rwa [List.length_map] at this) hE2.symm
      subst z2
      obtain rfl : v = Value.ref a := rx
      obtain rfl : u = Value.ref b := ry
      obtain ⟨_, ya, va, ra, da⟩ := (show ObjOk X.prog X.w H s.heap a (.dK kvs) from I.hok a _ (e _ _ hd))
      obtain ⟨_, yb, vb, rb, db⟩ := (show ObjOk X.prog X.w H s.heap b (.dK lvs) from I.hok b _ (e _ _ hd2))
      refine ⟨a, b, va, vb, rfl, rfl, ya, yb, da, db, ?_, ?_⟩
      · rw [← ra.length, ← rb.length]
        have h1 := congrArg List.length z1
        have h2 := congrArg List.length z3
        rw [List.length_map, List.length_map] at h1 h2
        omega
      · refine hits_M I e (by show X.A.units + 1 + 64 < cLine; omega) rb (fun n hn => ?_) ra z1 hq fun n hn => hn
        have := hv n
        rw [if_pos hn] at this
        exact this
theorem op_eqM (hu : X.A.units + 65 < cLine) : OpR X (compareOp .Eq) (rEqM X.K false) := by
  intro pins s σ H x y v u Q I rx ry h
  obtain ⟨B, ns, m, m', e, hx, hy, q⟩ := h
  obtain ⟨a, b, va, vb, rfl, rfl, ya, yb, da, db, hl, hh⟩ := eqM_parts I e hu hx hy rx ry
  exact PySem.W.keq_eq (knd := mixKind X.prog X.w) (r := sameM ns m m') ya yb da db (by omega) (fun _ => hh) (fin_bl I q (by simp [hl]))
theorem op_neM (hu : X.A.units + 65 < cLine) : OpR X (compareOp .NotEq) (rEqM X.K true) := by
  intro pins s σ H x y v u Q I rx ry h
  obtain ⟨B, ns, m, m', e, hx, hy, q⟩ := h
  obtain ⟨a, b, va, vb, rfl, rfl, ya, yb, da, db, hl, hh⟩ := eqM_parts I e hu hx hy rx ry
  exact PySem.W.keq_ne (knd := mixKind X.prog X.w) (r := sameM ns m m') ya yb da db (by omega) (fun _ => hh) (fin_bl I q (by simp [hl]))
end
theorem rv_M {K : PySem.W.Frag} {neg : Bool} {ns : List Int} {m m' : Int → List Int} : RV K (rEqM K neg) (effM ns fun n => .tuple ((m n).map PyData.int)) (effM ns fun n => .tuple ((m' n).map PyData.int)) (.bool (xor neg (sameM ns m m'))) := fun B H v u e hv hu Q q =>
  ⟨B, ns, m, m', e, hv, hu, q _ B H (Le.refl e) (.bl _)⟩
end MA

set_option maxRecDepth 100000
set_option maxHeartbeats 2000000
namespace MA
open PySem PySem.Spec PyProof.Rows L2
/-! ## {elt for t0 in i0}, elt an int -/
abbrev sc1 (elt t0 i0 : Expr) (scope : Scope) (pos : Pos) : Expr := .SetComp elt [⟨t0, i0, [], 0⟩] scope pos
theorem sc1_turn (elt t0 i0 : Expr) (scope : Scope) (pos : Pos) (it acc : Value) (env : Env) :
    compTurn (sc1 elt t0 i0 scope pos) 0 it acc env = (do
      standAt i0.pos
      match ← pyNext it with
      | none => pure (.done .next)
      | some v =>
        letOwnedTupleGo t0 it v
        assign t0 env v
        (do let v ← eval elt env; standAt elt.pos; let _ ← call (.builtin "set.add") [acc, v])
        again (.compLoop (sc1 elt t0 i0 scope pos) 0 it acc env)) := by rfl
section
variable {prog : Program} {w : World} {A : Around} {R : Result → Shared → Prop} {s : Shared} {elt t0 i0 : Expr} {scope : Scope} {pos : Pos} {it acc : Value} {env : Env}
theorem sc1_loop (I : Nat → Shared → Prop)
    (turn : ∀ n s, I n s → wpAny (model prog w) A (pyNext it) (fun r sa => match r with
      | none => R (.ok .next) sa
      | some v => wpAny (model prog w) A (letOwnedTupleGo t0 it v) (fun _ sb => wpAny (model prog w) A (assign t0 env v) (fun _ sc =>
          wpAny (model prog w) A (eval elt env) (fun x sd => wpAny (model prog w) A (call (.builtin "set.add") [acc, x]) (fun _ se => ∃ m, m < n ∧ I m se) (Nox prog w A env R) sd) (Nox prog w A env R) sc) (Nox prog w A env R) sb) (Nox prog w A env R) sa) (Nox prog w A env R) s)
    (n : Nat) (h : I n s) : codeAny (model prog w) A (.compLoop (sc1 elt t0 i0 scope pos) 0 it acc env) R s := by
  refine codeAny_loop rfl I (fun n s hI => ?_) n h
  show wpAny _ A ((compTurn (sc1 elt t0 i0 scope pos) 0 it acc env).onRaise (fun x => do noteFrame x env; theTreesLotGoes x)) _ _ s
  refine wpAny_noted ?_
  rw [sc1_turn]
  refine wpAny_bind (wpAny_standAt (wpAny_bind (wpAny_mono (turn n s hI) (fun r sa ha => ?_) fun _ _ z => z)))
  cases r with
  | none => exact wpAny_pure ha
  | some v =>
    refine wpAny_bind (wpAny_mono ha (fun _ sb hb => wpAny_bind (wpAny_mono hb (fun _ sc hc => ?_) fun _ _ z => z)) fun _ _ z => z)
    exact wpAny_bind (wpAny_bind (wpAny_mono hc (fun x sd hd => wpAny_bind (wpAny_standAt (wpAny_bind (wpAny_mono hd (fun _ se he => wpAny_pure (wpAny_pure ⟨rfl, he⟩)) fun _ _ z => z)))) fun _ _ z => z))
end
section
variable {X : Cx}
/-- the reading: a set at D that grows -/
def tSc1 (w : World) (wi : TI) (g : TG) (te : TE) (vs : List Nat) : TE := fun σ H Q => wi σ H fun J H1 => ∀ D, H1 D = none → ∃ W : Nat → Nat → Hp → Prop, (∃ m, W 0 m (upd H1 D (SetO w D (fun _ => false) 0))) ∧ ∀ i m H, W i m H →
  (J.stop i H ∧ Q (.ref D) H) ∨ (J.go i H ∧ ∃ Nx : Hp → Prop, (∀ Hn, Nx Hn → ∃ mn, mn < m ∧ W (i + 1) mn Hn) ∧ ∀ x Hy, J.yld i H x Hy → g x (wipe σ vs) Hy fun σ2 H2 => wipe σ2 vs = wipe σ vs ∧
    te σ2 H2 fun y H7 => ∃ (z : Int) (S : Int → Bool) (n : Nat), y = .int z ∧ H7 D = some (SetO w D S n) ∧ n + 1 < scanBound ∧ Nx (upd H7 D (SetO w D (fun j => S j || decide (j = z)) (if S z = true then n else n + 1))))
theorem pe_sc1 {elt t0 i0 : Expr} {scope : Scope} {own : List (PySem.Str × Nat)} {pos : Pos} {wi : TI} {g : TG} {te : TE} (hc : X.calm = true) (hN : X.N.Nodup) (hi : PI X t0 i0 wi) (ok : BlkOk X.N X.env.scope scope own)
    (hg : ∀ (s : Shared) (H : Hp) (C : Addr) (cl : List (PySem.Str × Addr)) (fp : List Addr), PG (X.blk s H scope (compEnvC scope cl C X.env) fp) t0 g)
    (he : ∀ (s : Shared) (H : Hp) (C : Addr) (cl : List (PySem.Str × Addr)) (fp : List Addr), PE (X.blk s H scope (compEnvC scope cl C X.env) fp) elt te)
    (hs : ∀ x, foldedSetIterable i0 X.env x = pure x := by intro _; rfl) :
    PE X (.SetComp elt [⟨t0, i0, [], 0⟩] scope pos) (tSc1 X.w wi g te (own.map (·.2))) := by
  refine ⟨fun pins s σ H Q I h => ?_⟩
  show wpAny _ _ (comprehension (sc1 elt t0 i0 scope pos) scope X.env (firstIterPos [⟨t0, i0, [], 0⟩] pos) (newSet (.type "set")) false (eval i0 X.env) none) _ _ s
  have hfree : ∀ y ∈ scope.names, y.2 = .free → ∃ c, X.env.cells.lookup y.1 = some c := fun y hy e => (ok.free y hy e).elim (fun k => I.ok.has _ (.inl k)) fun k => I.ok.has _ (.inr k)
  refine wpAny_comprehension_free (use := none) rfl hs (closure_ok hfree) ok.kind (fun y hy e => by rw [ok.uniq y hy, e]) (thn (hi.run pins s σ H _ I h) fun xv sa hx => thn hx fun itv sb h2 => ?_)
  obtain ⟨it, fp, tn, J, H2, e, I2, T, st2, f2, q⟩ := h2
  subst e
  refine PpSet.newSet_ok (newEnv_comp ?_)
  generalize hD : sb.heap.objs.size = D
  have hDn : H2 D = none := I2.hok.fresh (Nat.le_of_eq hD)
  obtain ⟨W, ⟨m0, w0⟩, turn⟩ := q D hDn
  generalize h3 : ({ sb with heap := sb.heap.push { cls := .type "set", dict := none, data := .set #[] 0 (.fresh 0 0 (!X.w.params.followText "set-order")) } } : Shared) = sc
  generalize hH3 : upd H2 D (SetO X.w D (fun _ => false) 0) = H3 at w0
  have hp3 : sc.heap = sb.heap.push { cls := .type "set", dict := none, data := .set #[] 0 (.fresh 0 0 (!X.w.params.followText "set-order")) } := by rw [← h3]
  have I3 : Inv X pins σ H3 sc := by
    rw [← h3, ← hH3]
    refine I2.laid (t' := sb.toks) (fun b o e => Heap.get?_push_of_some _ e) (Nat.le_of_eq hD) ?_
    rw [← hD]
    exact setO_new (setR_fresh X.w)
  have f3 : ∀ b ∈ fp, FpOk X pins H3 b ∧ b < sc.heap.objs.size := fun b hb => by
    obtain ⟨o, e, _⟩ := T.obj _ _ st2 b hb
    have hlt : b < sb.heap.objs.size := Heap.lt_size e
    refine ⟨⟨?_, (f2 b hb).2⟩, by rw [hp3, Heap.size_push]; exact Nat.lt_succ_of_lt hlt⟩
    rw [← hH3, upd_ne (by rw [← hD]; exact Nat.ne_of_lt hlt)]
    exact (f2 b hb).1
  have I4 := block_start I3 ok hN f3
  have pg := hg sc H3 sc.heap.objs.size (cellsFrom (sc.heap.objs.size + 1) scope.names (cloFrom X.env.cells scope.names [])) fp
  have pe := he sc H3 sc.heap.objs.size (cellsFrom (sc.heap.objs.size + 1) scope.names (cloFrom X.env.cells scope.names [])) fp
  show codeAny _ _ (.compStart (sc1 elt t0 i0 scope pos) 0 (.ref it) (.ref D) (compEnvC scope (cellsFrom (sc.heap.objs.size + 1) scope.names (cloFrom X.env.cells scope.names [])) sc.heap.objs.size X.env)) (compPost (model X.prog X.w) X.A X.xe none (EP X pins σ Q) (.ref D) sc.heap.objs.size) { sc with heap := pushCells (sc.heap.push { cls := .type "dict", data := .dict #[] }) scope.names }
  generalize hce : compEnvC scope (cellsFrom (sc.heap.objs.size + 1) scope.names (cloFrom X.env.cells scope.names [])) sc.heap.objs.size X.env = ce at I4 pg pe ⊢
  have cL : ce.locals = sc.heap.objs.size := by subst hce; rfl
  generalize h4 : ({ sc with heap := pushCells (sc.heap.push { cls := .type "dict", data := .dict #[] }) scope.names } : Shared) = sd at I4 ⊢
  have st4 : tn 0 sd.heap := T.keep _ _ _ st2 fun b _ o e => by
    rw [← h4]
    exact pushCells_keeps _ _ _ _ (Heap.get?_push_of_some _ (by rw [hp3]; exact Heap.get?_push_of_some _ e))
  generalize hY : X.blk sc H3 scope ce fp = Y at I4 pg pe
  have yex : Y.ex = fp := by rw [← hY]
  have stat : ∀ {σa : L2.St} {Ha : Hp} {t : Shared} {ps : List (Addr × Obj)}, Inv Y ps σa Ha t → (∀ b ∈ fp, Ha b = none) → ∀ b ∈ fp, FpOk Y [] Ha b := fun {σa Ha t ps} Ia hn b hb => by
    have hb' : b ∈ Y.ex := by rw [yex]; exact hb
    exact ⟨hn b hb, (Ia.ok.exf b hb').1, Ia.ok.exfs b hb', .inl hb', fun x c e => (Ia.ok.exf b hb').2 x c e, fun p hp => by rw [← hY] at hp; cases hp⟩
  have yP : Y.prog = X.prog := by rw [← hY]
  have yw : Y.w = X.w := by rw [← hY]
  have yK : Y.K = X.K := by rw [← hY]
  have yA : Y.A = X.A := by rw [← hY]
  have yc : Y.calm = true := by rw [← hY]; exact hc
  have yx : Y.xe = fun _ _ => False := by rw [← hY]
  have main : ∀ (R : Result → Shared → Prop), (∀ t Ha, Inv Y [] (wipe σ (own.map (·.2))) Ha t → Q (.ref D) Ha → R (.ok .next) t) →
      codeAny (model X.prog X.w) X.A (.compLoop (sc1 elt t0 i0 scope pos) 0 (.ref it) (.ref D) ce) R sd := by
    intro R hend
    subst hY
    refine sc1_loop (fun n t => ∃ i Ha, Inv (X.blk sc H3 scope ce fp) [] (wipe σ (own.map (·.2))) Ha t ∧ tn i t.heap ∧ (∀ b ∈ fp, Ha b = none) ∧ W i n Ha) ?_ m0 ⟨0, H3, I4, st4, fun b hb => (f3 b hb).1.1, w0⟩
    rintro n ta ⟨i, H5, I5, st5, n5, w5⟩
    rcases turn i n H5 w5 with ⟨stop, qq⟩ | ⟨go, Nx, hNx, step⟩
    · refine thnF (T.done (X.blk sc H3 scope ce fp) rfl rfl rfl hc i [] ta _ H5 (fun _ _ => False) I5 (stat I5 n5) st5 stop) fun r tb ⟨hr, I6⟩ => ?_
      subst hr
      exact hend tb H5 I6 qq
    refine thnF (T.item (X.blk sc H3 scope ce fp) rfl rfl rfl hc i [] ta _ H5 (fun _ _ => False) I5 (stat I5 n5) st5 go) fun r tb ⟨u, hr, h6⟩ => ?_
    subst hr
    refine thnF h6 fun _ tc ⟨x, H7, I7, r7, y7, st7, n7⟩ => ?_
    refine thnF (pg.run _ tc _ H7 x u _ (I7.pinned (stat I7 n7) (T.obj _ _ st7)) r7 (step x H7 y7)) fun _ td ⟨σ8, H8, I8, hw8, q8⟩ => ?_
    -- back to the outer loop
    have fin : ∀ {σ9 : L2.St} {t : Shared} {Ha : Hp}, Inv (X.blk sc H3 scope ce fp) ([] ++ pinsAt fp tc.heap) σ9 Ha t → (wipe σ (own.map (·.2))).length = σ9.length → (∀ (j : Nat) v, (wipe σ (own.map (·.2)))[j]? = some (some v) → σ9[j]? = some (some v)) → Nx Ha →
        ∃ m, m < n ∧ ∃ i Ha, Inv (X.blk sc H3 scope ce fp) [] (wipe σ (own.map (·.2))) Ha t ∧ tn i t.heap ∧ (∀ b ∈ fp, Ha b = none) ∧ W i m Ha := fun {σ9 t Ha} Ia hl hk nx => by
      obtain ⟨mn, hm, wn⟩ := hNx Ha nx
      have pin : ∀ b ∈ fp, ∀ o, tc.heap.get? b = some o → t.heap.get? b = some o ∧ Ha b = none := fun b hb o e => by
        have z := Ia.pin (b, o) (List.mem_append_right _ (List.mem_append_right _ (mem_pinsAt hb e)))
        exact ⟨z.1, z.2.1⟩
      refine ⟨mn, hm, i + 1, Ha, (Ia.unpinned (pins := [])).weak hl hk, T.keep _ _ _ st7 fun b hb o e => (pin b hb o e).1, fun b hb => ?_, wn⟩
      obtain ⟨o, e, _⟩ := T.obj _ _ st7 b hb
      exact (pin b hb o e).2
    refine thnF (pe.run _ td σ8 H8 _ I8 q8) fun z tk ⟨yv, H17, I17, r17, zi, S0, n0, ey, hD17, hz17, nx⟩ => ?_
    subst ey
    obtain ⟨ztok, rfl⟩ := (show ∃ t, z = Value.int zi t from r17)
    refine addI_ok (X := X.blk sc H3 scope ce fp) I17 hD17 hz17 fun tl I18 => ?_
    exact fin I18 (by rw [← hw8, wipe_length]) (fun j v e => by rw [← hw8] at e; exact (wipe_some e).1) nx
  have loop := main (compPost (model X.prog X.w) X.A X.xe none (EP X pins σ Q) (.ref D) sc.heap.objs.size) fun t Ha Ia qq => by
    subst hY
    have I7 : Inv X pins σ Ha t := I3.call' (ch := fp) Ia.os Ia.base Ia.hok Ia.bare fun b hb => ⟨(f3 b hb).1.2.2.2.1, (f3 b hb).1.2.1, (f3 b hb).1.2.2.2.2.1, (f3 b hb).1.2.2.2.2.2⟩
    have nC : Ha sc.heap.objs.size = none := by
      have z : Ha ce.locals = none := Ia.free
      rw [cL] at z
      exact z
    obtain ⟨mm, hn, _⟩ := Ia.loc
    have hn : t.heap.Ns ce.locals mm := hn
    rw [cL] at hn
    refine ⟨mm, hn, fun h'' sb' => ?_⟩
    obtain ⟨f0, f1, f2, f4, f5, f6⟩ := I3.fpOk (Nat.le_refl _) nC
    exact ⟨.ref D, Ha, I7.turned (t' := t.toks) (fun b o hb e => (sb'.2 b hb).trans e) f0 f1 f4 f5 f6, rfl, qq⟩
  exact PpSet.codeAny_compStart_set loop (T.self X.A 0 _ _ _ st4 loop)
end
end MA
namespace MA
open PySem PySem.Spec PyProof.Rows L2
section
variable {K : PySem.W.Frag} {w : World} {σ : L2.St} {B H : Hp} {tl te : TE}
/-- sorted({te for x in list of ints}) -/
theorem evN_sortedSet1 {xs : List Int} {j : Nat} {vs : List Nat} (f : Int → Int) (hl : Ev K tl σ B H (.list (xs.map PyData.int))) (hf : ∀ x ∈ xs, 0 ≤ f x ∧ f x < 60)
    (hv : ∀ (x : Int) B1 H1, Le [] B H B1 H1 → x ∈ xs → Ev K te ((wipe σ vs).set j (some (.int x))) B1 H1 (.int (f x)))
    (hw : ∀ x, wipe ((wipe σ vs).set j (some x)) vs = wipe σ vs := by intro _; rfl) :
    EvN K (tCB (rSortedSet w) (tCons (tSc1 w (iList K tl) (gName j) te vs) tNil)) σ B H (.list ((below fun k => xs.any fun x => decide (f x = k)).map PyData.int)) := fun B0 H0 l0 Q q => by
  refine hl B0 H0 l0 _ fun u B1 H1 l1 hu => ?_
  cases hu with
  | lst hs hq =>
    rename_i a ys
    cases ofInts hq
    refine ⟨a, rfl, ⟨_, .inl (.inl (l1.h _ _ hs))⟩, fun D hD => ?_⟩
    have b1 := none_of l1.h hD
    refine ⟨fun i m Hi => m = xs.length - i ∧ i ≤ xs.length ∧ Sw K w B1 H1 D (fun k => ∃ x ∈ xs.take i, f x = k) Hi, ⟨_, rfl, Nat.zero_le _, B1, [], Le.made l1.h hD, b1, ⟨by simp, by simp, _, upd_same, by simp⟩, by simp⟩, ?_⟩
    rintro i m Hi ⟨rfl, hi', p⟩
    have hsq : SqL K Hi a (xs.map V.int) := by
      obtain ⟨Bi, l, le, _⟩ := p
      exact .inl (.inl (le.h _ _ (le.b _ _ hs)))
    by_cases hlt : i < xs.length
    · have hx : xs[i]? = some xs[i] := List.getElem?_eq_getElem hlt
      have hy : (xs.map V.int)[i]? = some (.int xs[i]) := by rw [List.getElem?_map, hx]; rfl
      have hm := List.getElem_mem hlt
      refine .inr ⟨⟨_, _, hsq, hy⟩, fun Hn => Sw K w B1 H1 D (fun k => ∃ x ∈ xs.take (i + 1), f x = k) Hn, fun Hn p' => ⟨xs.length - (i + 1), by omega, rfl, hlt, p'⟩, fun x Hy y => ?_⟩
      obtain ⟨rfl, y⟩ := y
      have ex : x = .int xs[i] := Option.some.inj ((y _ hsq).symm.trans hy)
      subst ex
      refine ⟨hw _, ?_⟩
      obtain ⟨Bi, l, le, hb, hs1, hmm⟩ := p
      refine hv xs[i] Bi Hy (l0.trans (l1.trans le)) hm Bi Hy (Le.refl le.h) _ fun u2 B2 H2 l2 hu2 => ?_
      cases hu2
      have b2 : B2 D = none := by
        obtain ⟨_, _, S, e, _⟩ := hs1
        exact l2.own e hb
      have start : Sw K w B1 H1 D (fun k => ∃ x ∈ xs.take i, f x = k) H2 := by
        obtain ⟨h1, h2, S, e, hS⟩ := hs1
        exact ⟨B2, l, le.trans l2, b2, ⟨h1, h2, S, l2.k D _ (by simp) e, hS⟩, hmm⟩
      obtain ⟨S, n, e1, e2, e3⟩ := Sw.add (q := fun k => ∃ x ∈ xs.take (i + 1), f x = k) hD start (hf _ hm) fun k => by
        rw [List.take_add_one, hx]
        simp only [Option.toList, List.mem_append, List.mem_singleton]
        constructor
        · rintro ⟨x, h1 | h1, h2⟩
          · exact .inl ⟨x, h1, h2⟩
          · exact .inr (by rw [← h2, h1])
        · rintro (⟨x, h1, h2⟩ | h2)
          · exact ⟨x, .inl h1, h2⟩
          · exact ⟨_, .inr rfl, h2.symm⟩
      exact ⟨_, S, n, rfl, e1, e2, e3⟩
    · have ei : i = xs.length := by omega
      subst ei
      refine .inl ⟨⟨_, hsq, by rw [List.length_map]; exact Nat.le_refl _⟩, ?_⟩
      obtain ⟨Bi, l, le, hb, hs1, hm⟩ := p
      have sm := hs1.small
      obtain ⟨h1, h2, S, e, hS⟩ := hs1
      refine ⟨D, S, l.length, rfl, e, by omega, fun ns pa hasc hmem hlen hpa => ?_⟩
      have ens : ns = below fun k => xs.any fun x => decide (f x = k) := by
        refine asc_eq hasc (below_asc _) fun k => ?_
        rw [hmem k, hS k, hm k, mem_below, List.take_length]
        constructor
        · rintro ⟨x, m, hk⟩
          have := hf x m
          rw [hk] at this
          exact ⟨this.1, this.2, List.any_eq_true.mpr ⟨x, m, decide_eq_true hk⟩⟩
        · rintro ⟨_, _, h⟩
          obtain ⟨x, m, hk⟩ := List.any_eq_true.mp h
          exact ⟨x, m, of_decide_eq_true hk⟩
      subst ens
      have ln := Le.new (M := []) (o := .lst ((below fun k => xs.any fun x => decide (f x = k)).map V.int)) le.h hpa
      exact q (.ref pa) _ _ (l1.trans (le.trans ln)) ⟨pa, rfl, (l1.trans le).back hpa⟩ (.lst upd_same (dqInts _))
end
end MA

set_option maxRecDepth 100000
set_option maxHeartbeats 2000000
namespace MA
open PySem PySem.Spec PyProof.Rows L2
/-! ## sorted of tuples of ints of any lengths, none empty: by the first int, where the firsts differ -/
theorem tupI_items : ∀ (ns : List Int) (us : List Value) (i : Nat), Vals (ns.map V.int) us → tupItems (fun _ => false) i us = some (ns.map Sum.inl)
  | [], us, i, h => by cases h; rfl
  | n :: ns, us, i, h => by
    cases h with
    | @cons v u vs us' r t =>
      obtain ⟨tk, rfl⟩ := (show ∃ t, u = Value.int n t from r)
      have ih := tupI_items ns us' (i + 1) t
      show (if (fun _ : Nat => false) i = true then none else (tupItems (fun _ => false) (i + 1) us').map (Sum.inl n :: ·)) = _
      rw [if_neg (by simp), ih]
      rfl
section
variable {X : Cx} {pins : List (Addr × Obj)} {σ : L2.St} {H : Hp} {s : Shared}
theorem key_of_tup (I : Inv X pins σ H s) {t : Addr} {ns : List Int} (h : SqT X.K H t (ns.map V.int)) : PyProof.Rows.G.tupKeyC s.heap (fun _ => false) (.ref t) = some (ns.map Sum.inl) := by
  obtain ⟨its, rv, ⟨o, ho, hc, n, hd⟩, _⟩ := I.tuple h
  unfold PyProof.Rows.G.tupKeyC
  have e1 : PyProof.Rows.G.isTupObj s.heap (.ref t) = true := by simp [PyProof.Rows.G.isTupObj, ho, hc]
  rw [if_pos e1]
  simp only [tupKey, ho, hd]
  exact tupI_items ns its 0 rv
theorem tupOf_tup (I : Inv X pins σ H s) {t : Addr} {n : Int} {ns : List Int} (h : SqT X.K H t ((n :: ns).map V.int)) : ∃ f, TupOf s.heap (fun _ => false) (.ref t) f := by
  obtain ⟨its, rv, ⟨o, ho, hc, k, hd⟩, _⟩ := I.tuple h
  cases rv with
  | @cons v u vs us r q =>
    exact ⟨u, t, o, _, k, rfl, ho, hc, hd, rfl, fun _ => by obtain ⟨tk, e⟩ := (show ∃ t, u = Value.int n t from r); exact ⟨n, tk, e⟩, fun h => by cases h⟩
theorem tupsOf_all {h : Heap} {shape : Nat → Bool} : ∀ {us : List Value}, (∀ u ∈ us, ∃ f, TupOf h shape u f) → ∃ fs, TupsOf h shape us fs
  | [], _ => ⟨[], .nil⟩
  | u :: us, hx => by
    obtain ⟨f, hf⟩ := hx u (List.mem_cons_self ..)
    obtain ⟨fs, hfs⟩ := tupsOf_all (us := us) fun v hv => hx v (List.mem_cons_of_mem _ hv)
    exact ⟨f :: fs, .cons hf hfs⟩
def rSortV (K : PySem.W.Frag) : List V → Hp → VK → Prop := fun vs H Q => ∃ (a : Addr) (xs : List V), vs = [V.ref a] ∧ SqL K H a xs ∧ (∀ x ∈ xs, ∃ n ns, TupI K H x (n :: ns)) ∧
  ∀ (ys : List V) (p : Addr), ys.Perm xs → ys.Pairwise (fun x y => ∀ n ns m ms, TupI K H x (n :: ns) → TupI K H y (m :: ms) → n ≤ m) → H p = none → Q (.ref p) (upd H p (.lst ys))
theorem cr_sortV : CallR X (.builtin "sorted") (rSortV X.K) := by
  intro pins s σ H vs us Q I r h
  obtain ⟨a, xs, rfl, hs, hx, q⟩ := h
  obtain ⟨its, rv, hl, hz⟩ := I.list hs
  rw [Vals.ref1 r]
  obtain ⟨e1, e2⟩ := bkV_refs rv fun x m => by
    obtain ⟨n, ns, ⟨t, e, _⟩⟩ := hx x m
    exact ⟨t, e⟩
  have hu : ∀ u ∈ its, ∃ t n ns, u = Value.ref t ∧ SqT X.K H t ((n :: ns).map V.int) := fun u hu => by
    obtain ⟨t, rfl⟩ := e2 u hu
    have hm : V.ref t ∈ xs := by
      rw [e1]
      exact List.mem_map.mpr ⟨_, hu, rfl⟩
    obtain ⟨n, ns, t', e, ht⟩ := hx _ hm
    cases e
    exact ⟨t, n, ns, rfl, ht⟩
  obtain ⟨fs, hfs⟩ := tupsOf_all (h := s.heap) (shape := fun _ => false) (us := its) fun u m => by
    obtain ⟨t, n, ns, rfl, ht⟩ := hu u m
    exact tupOf_tup I ht
  refine PyProof.Rows.G.sorted_tups (shape := fun _ => false) (fs := fs) hl.isList hfs (fun v hv => ?_) (by rw [← rv.length]; exact hz) fun st' h1 h2 _ => ?_
  · obtain ⟨t, n, ns, rfl, ht⟩ := hu v hv
    exact ⟨_, key_of_tup I ht⟩
  · generalize arrOf st' = arr at h1 h2
    have hpl : arr.toList.Perm (its.zip its) := by
      have := Array.perm_iff_toList_perm.mp h1
      rwa [pairsOf_toList] at this
    have hsame : ∀ p ∈ arr.toList, p.1 = p.2 ∧ p.2 ∈ its := fun p hp => by
      obtain ⟨e, hm⟩ := mem_zip_self (hpl.mem_iff.mp hp)
      exact ⟨e, e ▸ hm⟩
    have hout : ((arr.map (·.2)).toList).Perm its := by
      rw [Array.toList_map]
      have z := hpl.map Prod.snd
      rwa [List.map_snd_zip (Nat.le_refl _)] at z
    obtain ⟨ep, he'⟩ := PyProof.Rows.sortedAll_at s.heap its (arr.map (·.2))
    have h3 : ∀ u ∈ (arr.map (·.2)).toList, ∃ a, u = Value.ref a := fun u hu => e2 u (hout.mem_iff.mp hu)
    have hp : ((arr.map (·.2)).toList.map bkV).Perm xs := by
      rw [e1]
      exact hout.map bkV
    have hlen : ((arr.map (·.2)).toList.map bkV).length ≤ sizeLine := by
      rw [hp.length_eq]
      exact hz
    refine ⟨.ref _, upd H (s.heap.objs.size + 1) (.lst ((arr.map (·.2)).toList.map bkV)), I.laid (t' := s.toks) (fun _ _ => PyProof.Rows.sortedAll_old) (Nat.le_succ _) ⟨hlen, (arr.map (·.2)).toList, ep, bkV_vals h3, he'⟩, rfl, q _ _ hp ?_ (I.hok.fresh (Nat.le_succ _))⟩
    rw [Array.toList_map, List.map_map, List.pairwise_map, List.pairwise_iff_getElem]
    intro i j hi hj hij n ns m ms hn hm
    obtain ⟨t, et, ht⟩ := hn
    obtain ⟨t', et', ht'⟩ := hm
    have eu : arr.toList[i].2 = .ref t := bkV_ref et
    have ev : arr.toList[j].2 = .ref t' := bkV_ref et'
    have g1 := hsame _ (List.getElem_mem hi)
    have g2 := hsame _ (List.getElem_mem hj)
    have ei : arr[i]? = some arr.toList[i] := by rw [← Array.getElem?_toList]; exact List.getElem?_eq_getElem hi
    have ej : arr[j]? = some arr.toList[j] := by rw [← Array.getElem?_toList]; exact List.getElem?_eq_getElem hj
    have hsz : j < (pairsOf its).size := by
      rw [← h1.size_eq, ← Array.length_toList]
      exact hj
    have c := h2 i j (Nat.le_of_lt hij) hsz
    have k1 : KK (PyProof.Rows.G.tupKindC s.heap fun _ => false) arr i = (n :: ns).map Sum.inl := by
      unfold KK
      rw [ei]
      show (PyProof.Rows.G.tupKeyC s.heap (fun _ => false) (arr.toList[i]).1).getD [] = _
      rw [g1.1, eu, key_of_tup I ht]
      rfl
    have k2 : KK (PyProof.Rows.G.tupKindC s.heap fun _ => false) arr j = (m :: ms).map Sum.inl := by
      unfold KK
      rw [ej]
      show (PyProof.Rows.G.tupKeyC s.heap (fun _ => false) (arr.toList[j]).1).getD [] = _
      rw [g2.1, ev, key_of_tup I ht']
      rfl
    rw [k1, k2] at c
    have c2 : lexLt itemOrd (Sum.inl m :: ms.map Sum.inl) (Sum.inl n :: ns.map Sum.inl) = false := c
    rw [lex_cons, Bool.or_eq_false_iff] at c2
    have c3 : decide (m < n) = false := c2.1
    have := of_decide_eq_false c3
    omega
end
end MA
namespace MA
open PySem PySem.Spec PyProof.Rows L2
abbrev tupB (b : List Int) : PyData := .tuple (b.map PyData.int)
section
variable {K : PySem.W.Frag} {B H : Hp}
theorem dq_perm {xs ys : List V} (h : ys.Perm xs) : ∀ {bs : List (List Int)}, DqAll K B xs (bs.map tupB) → ∃ es : List (List Int), es.Perm bs ∧ DqAll K B ys (es.map tupB) := by
  induction h with
  | nil => intro bs h; exact ⟨bs, .refl _, h⟩
  | cons x _ ih =>
    intro bs h
    cases bs with
    | nil => cases h
    | cons b bs =>
      cases h with
      | cons h1 h2 =>
        obtain ⟨es, p, q⟩ := ih h2
        exact ⟨b :: es, p.cons b, .cons h1 q⟩
  | swap x y l =>
    intro bs h
    match bs, h with
    | b :: c :: bs, .cons h1 (.cons h2 h3) => exact ⟨c :: b :: bs, .swap b c bs, .cons h2 (.cons h1 h3)⟩
  | trans _ _ ih1 ih2 =>
    intro bs h
    obtain ⟨es, p, q⟩ := ih2 h
    obtain ⟨fs, p2, q2⟩ := ih1 q
    exact ⟨fs, p2.trans p, q2⟩
theorem tupI_dq {v : V} {b : List Int} (e : Ex B H) (h : Dq K B v (tupB b)) : TupI K H v b := by
  cases h with
  | tup h1 q1 =>
    cases ofInts q1
    exact ⟨_, rfl, Evl.ex_t e h1⟩
theorem head_inj {cs : List (List Int)} (hs : cs.Pairwise (fun x y => x.headD 0 < y.headD 0)) {x y : List Int} (hx : x ∈ cs) (hy : y ∈ cs) (h : x.headD 0 = y.headD 0) : x = y := by
  induction cs with
  | nil => cases hx
  | cons c cs ih =>
    rw [List.pairwise_cons] at hs
    rcases List.mem_cons.mp hx with e1 | e1 <;> rcases List.mem_cons.mp hy with e2 | e2
    · rw [e1, e2]
    · subst e1; have := hs.1 y e2; omega
    · subst e2; have := hs.1 x e1; omega
    · exact ih hs.2 e1 e2
theorem sorted_uniq {es cs : List (List Int)} (hp : es.Perm cs) (hs : cs.Pairwise (fun x y => x.headD 0 < y.headD 0)) (he : es.Pairwise (fun x y => x.headD 0 ≤ y.headD 0)) : es = cs := by
  have nd : (cs.map fun b => b.headD 0).Pairwise (· < ·) := List.pairwise_map.mpr hs
  have ne : (es.map fun b => b.headD 0).Pairwise (· < ·) := by
    refine asc_of_sorted (List.pairwise_map.mpr he) ?_
    exact (hp.map _).nodup_iff.mpr (List.Pairwise.imp (fun {a b} h => by omega) nd)
  have em : es.map (fun b => b.headD 0) = cs.map fun b => b.headD 0 := asc_eq ne nd fun k => (hp.map _).mem_iff
  apply List.ext_getElem?
  intro i
  have hi := congrArg (fun l : List Int => l[i]?) em
  simp only [List.getElem?_map] at hi
  cases h1 : es[i]? with
  | none =>
    rw [h1] at hi
    cases h2 : cs[i]? with
    | none => rfl
    | some c => rw [h2] at hi; cases hi
  | some x =>
    rw [h1] at hi
    cases h2 : cs[i]? with
    | none => rw [h2] at hi; cases hi
    | some y =>
      rw [h2] at hi
      have hh : x.headD 0 = y.headD 0 := Option.some.inj hi
      rw [head_inj hs (hp.mem_iff.mp (List.mem_of_getElem? h1)) (List.mem_of_getElem? h2) hh]
theorem rcN_sortV {bs cs : List (List Int)} (hne : ∀ b ∈ bs, b ≠ []) (hp : cs.Perm bs) (hs : cs.Pairwise (fun x y => x.headD 0 < y.headD 0)) : ∀ B H vs, Ex B H → DqAll K B vs [.list (bs.map tupB)] → ∀ Q : VK, (∀ w B' H', Le [] B H B' H' → (∃ a, w = .ref a ∧ H a = none) → Dq K B' w (.list (cs.map tupB)) → Q w H') → rSortV K vs H Q := fun B H vs e hvs Q q => by
  obtain ⟨v, rfl, hv⟩ := dq1 hvs
  cases hv with
  | lst h1 h2 =>
    rename_i a xs
    refine ⟨a, xs, rfl, .inl (.inl (e _ _ h1)), fun x hx => ?_, fun ys p pm sr hpn => ?_⟩
    · obtain ⟨i, hi⟩ := List.getElem?_of_mem hx
      obtain ⟨d, hd, hq⟩ := h2.get hi
      rw [List.getElem?_map] at hd
      obtain ⟨b, hb, rfl⟩ := Option.map_eq_some_iff.mp hd
      have hbn := hne b (List.mem_of_getElem? hb)
      cases b with
      | nil => exact absurd rfl hbn
      | cons n ns => exact ⟨n, ns, tupI_dq e hq⟩
    · obtain ⟨es, p1, q1⟩ := dq_perm pm h2
      have heq : es = cs := by
        refine sorted_uniq (p1.trans hp.symm) hs ?_
        rw [List.pairwise_iff_getElem] at sr ⊢
        intro i j hi hj hij
        have hl : ys.length = es.length := by rw [q1.length, List.length_map]
        have e1 : (es.map tupB)[i]? = some (tupB es[i]) := by rw [List.getElem?_map, List.getElem?_eq_getElem hi]; rfl
        have e2 : (es.map tupB)[j]? = some (tupB es[j]) := by rw [List.getElem?_map, List.getElem?_eq_getElem hj]; rfl
        obtain ⟨x, hx, dx⟩ := q1.get' e1
        obtain ⟨y, hy, dy⟩ := q1.get' e2
        have nx := hne _ (p1.mem_iff.mp (List.getElem_mem hi))
        have ny := hne _ (p1.mem_iff.mp (List.getElem_mem hj))
        have tx := tupI_dq e dx
        have ty := tupI_dq e dy
        have gx : ys[i]'(by omega) = x := by have := (List.getElem?_eq_some_iff.mp hx).2; exact this
        have gy : ys[j]'(by omega) = y := by have := (List.getElem?_eq_some_iff.mp hy).2; exact this
        have c := sr i j (by omega) (by omega) hij
        rw [gx, gy] at c
        cases hbi : es[i] with
        | nil => exact absurd hbi nx
        | cons n ns =>
          cases hbj : es[j] with
          | nil => exact absurd hbj ny
          | cons m ms =>
            rw [hbi] at tx
            rw [hbj] at ty
            exact c n ns m ms tx ty
      subst heq
      exact q (.ref p) _ _ (Le.new e hpn) ⟨p, rfl, hpn⟩ (.lst upd_same (q1.mono (Le.new (M := []) e hpn).b))
theorem rc_sortV {bs cs : List (List Int)} (hne : ∀ b ∈ bs, b ≠ []) (hp : cs.Perm bs) (hs : cs.Pairwise (fun x y => x.headD 0 < y.headD 0)) : RC K (rSortV K) [.list (bs.map tupB)] (.list (cs.map tupB)) := fun B H vs e hvs Q q => rcN_sortV hne hp hs B H vs e hvs Q fun w B' H' l _ hw => q w B' H' l hw
/-- sorted: the answer is new -/
theorem evN_sortV {bs cs : List (List Int)} {σ : L2.St} {B H : Hp} {te : TE} (h : Ev K te σ B H (.list (bs.map tupB))) (hne : ∀ b ∈ bs, b ≠ []) (hp : cs.Perm bs) (hs : cs.Pairwise (fun x y => x.headD 0 < y.headD 0)) : EvN K (tCB (rSortV K) (tCons te tNil)) σ B H (.list (cs.map tupB)) := fun B1 H1 l Q q =>
  (ea_cons h ea_nil) B1 H1 l _ fun vs B2 H2 l2 hvs => rcN_sortV hne hp hs B2 H2 vs l2.h hvs Q fun w B3 H3 l3 hn hw => by
    obtain ⟨a, ea, ha⟩ := hn
    exact q w B3 H3 (l2.trans l3) ⟨a, ea, l2.back ha⟩ hw
end
end MA

set_option maxRecDepth 100000
set_option maxHeartbeats 2000000
namespace MA
open PySem PySem.Spec PyProof.Rows L2
section
variable {K : PySem.W.Frag} {σ : L2.St} {B H : Hp} {tt : TT} {ns : List Int} {F : Int → PyData}
/-- [x for x in d.values() if tt], d a dict that stands for good -/
theorem ev_lcVals {i jk : Nat} {v : V} {vs : List Nat} (f : Int → Bool) (hi : σ[i]? = some (some v)) (hv : Dq K B v (effM ns F)) (hoff : OffOk K F) (e : Ex B H) (hln : ns.length ≤ 1000)
    (ht : ∀ n ∈ ns, ∀ x B' H', Ex B' H' → Dq K B' x (F n) → EvT tt ((wipe σ vs).set jk (some x)) B' H' (f n))
    (hk : ∀ y, ((wipe σ vs).set jk (some y))[jk]? = some (some y) := by intro _; rfl)
    (hw : ∀ y, wipe ((wipe σ vs).set jk (some y)) vs = wipe σ vs := by intro _; rfl) :
    Ev K (tLockE (tLc (iVals (tVar i)) (gName jk) tt (tVar jk) vs)) σ B H (.list ((ns.filter f).map F)) := by
  have hv0 := hv
  unfold effM at hv
  generalize hE : ns.map (fun n => (PyData.int n, F n)) = L at hv
  cases hv with
  | dct hd hq =>
    rename_i d kvs ds
    obtain ⟨z1, z2⟩ := zip_parts (by have := hq.length; rwa [List.length_map] at this) hE.symm
    subst z2
    refine ev_lock (e d _ hd) fun od B1 H1 l1 hd1 => ?_
    have e1 := lock_le (od := od) l1.h hd1
    have hq1 := hoff.all (l1.b _ _ hd) (hq.mono l1.b)
    generalize hBl : dropB B1 d = Bl at e1 hq1 ⊢
    generalize hHl : upd H1 d (.frz od (.dK kvs)) = Hl at e1 ⊢
    have hdl : Hl d = some (.frz od (.dK kvs)) := by rw [← hHl]; exact upd_same
    clear hHl hBl
    intro B2 H2 l2 Q q
    have hd2 := l2.k d _ (by simp) hdl
    have kl : kvs.length = ns.length := by have := congrArg List.length z1; rwa [List.length_map, List.length_map] at this
    refine ⟨.ref d, hi, d, od, kvs, rfl, hd2, fun D hD => ?_⟩
    have hDb := none_of l2.h hD
    have hsl : 1000 < sizeLine := by rw [sizeLine_eq]; decide
    refine lc_it (walk_values (d := d) (o := od) (kvs := kvs)) (fun i Hi => ∃ Bi ws, Le [] B2 H2 Bi Hi ∧ Bi D = none ∧ Hi D = some (.lst ws) ∧ DqAll K Bi ws (((ns.take i).filter f).map F)) ⟨B2, [], Le.made l2.h hD, hDb, upd_same, .nil⟩ (fun i Hi _ p => ?_) (fun i y Hi Hi' hlt p yy => ?_) (fun Hi p => ?_)
    · obtain ⟨Bi, ws, le, _⟩ := p
      exact le.k d _ (by simp) hd2
    · obtain ⟨rfl, kk, ekv⟩ := yy
      obtain ⟨Bi, ws, le, hbi, hh, hqw⟩ := p
      have hlt' : i < ns.length := by omega
      have en : ns[i]? = some ns[i] := List.getElem?_eq_getElem hlt'
      have hnm : ns[i] ∈ ns := List.getElem_mem hlt'
      obtain ⟨dd, ed, hy⟩ := (hq1.mono (l2.trans le).b).get (i := i) (v := y) (by rw [List.getElem?_map, ekv]; rfl)
      rw [List.getElem?_map, en] at ed
      cases ed
      have htk := take_one en
      refine ⟨hw _, ?_⟩
      refine ht ns[i] hnm y Bi Hi' le.h hy Bi Hi' (Le.refl le.h) _ fun B3 H3 l3 => ?_
      have h3 := l3.k D _ (by simp) hh
      have b3 := l3.own hh hbi
      have q3 := hqw.mono l3.b
      by_cases z : f ns[i] = true
      · rw [if_pos z]
        have hwl : ws.length ≤ 1000 := by
          rw [hqw.length, List.length_map]
          exact Nat.le_trans (List.length_filter_le _ _) (by rw [List.length_take]; omega)
        refine ⟨y, hk _, ws, h3, by omega, B3, ws ++ [y], ?_, b3, upd_same, ?_⟩
        · exact ((le.any.trans l3.any).trans (Le.put (M := [D]) l3.h b3 (by simp))).local hD
        · rw [htk, List.filter_append, List.map_append]
          refine q3.append ?_
          have : List.filter f [ns[i]] = [ns[i]] := by simp [z]
          rw [this]
          exact .cons (hy.mono l3.b) .nil
      · rw [if_neg z]
        refine ⟨B3, ws, le.trans l3, b3, h3, ?_⟩
        rw [htk, List.filter_append]
        have : List.filter f [ns[i]] = [] := by simp [z]
        rw [this, List.append_nil]
        exact q3
    · obtain ⟨Bi, ws, le, hbi, hh, hqw⟩ := p
      rw [kl, List.take_length] at hqw
      have lg := le.give hD hbi hh
      exact q (.ref D) _ Hi lg (.lst upd_same (hqw.mono (Evl.Ex.new hbi)))
end
/-! ## the blocks that are not empty, by their first items -/
def finB (ns : List Int) (m : Int → List Int) : List (List Int) := ((ns.map m).filter fun b => !b.isEmpty).mergeSort fun x y => decide (x.headD 0 ≤ y.headD 0)
section
variable {ns : List Int} {m : Int → List Int}
theorem finB_perm : (finB ns m).Perm ((ns.map m).filter fun b => !b.isEmpty) := List.mergeSort_perm _ _
theorem heads_nd : ∀ {ns : List Int}, (ns.flatMap m).Nodup → (((ns.map m).filter fun b => !b.isEmpty).map fun b => b.headD 0).Nodup
  | [], _ => List.nodup_nil
  | a :: L, h => by
    rw [List.flatMap_cons, List.nodup_append] at h
    rw [List.map_cons, List.filter_cons]
    have ih := heads_nd h.2.1
    cases hm : m a with
    | nil => simpa [hm] using ih
    | cons k ks =>
      rw [if_pos (by simp), List.map_cons, List.nodup_cons]
      refine ⟨fun hc => ?_, ih⟩
      obtain ⟨b, hb, hbk⟩ := List.mem_map.mp hc
      obtain ⟨hb1, hb2⟩ := List.mem_filter.mp hb
      obtain ⟨n, hn, rfl⟩ := List.mem_map.mp hb1
      cases hmn : m n with
      | nil => rw [hmn] at hb2; simp at hb2
      | cons j js =>
        rw [hmn] at hbk
        have e : j = k := hbk
        exact h.2.2 k (by rw [hm]; exact List.mem_cons_self ..) j (List.mem_flatMap.mpr ⟨n, hn, by rw [hmn]; exact List.mem_cons_self ..⟩) e.symm
theorem finB_asc (h : (ns.flatMap m).Nodup) : (finB ns m).Pairwise (fun x y => x.headD 0 < y.headD 0) := by
  have nd : ((finB ns m).map fun b => b.headD 0).Nodup := (finB_perm.map _).nodup_iff.mpr (heads_nd h)
  have le : (finB ns m).Pairwise fun x y => x.headD 0 ≤ y.headD 0 := by
    have := List.pairwise_mergeSort (le := fun x y : List Int => decide (x.headD 0 ≤ y.headD 0)) (fun a b c h1 h2 => by simp at h1 h2 ⊢; omega) (fun a b => by simp; omega) ((ns.map m).filter fun b => !b.isEmpty)
    exact List.Pairwise.imp (fun h => of_decide_eq_true h) this
  have := asc_of_sorted (List.pairwise_map.mpr le) nd
  exact List.pairwise_map.mp this
theorem finB_ne : ∀ b ∈ (ns.map m).filter (fun b => !b.isEmpty), b ≠ [] := fun b hb => by
  have := (List.mem_filter.mp hb).2
  intro z
  rw [z] at this
  cases this
end
theorem rv_neT0 {K : PySem.W.Frag} {ds : List PyData} : RV K (rNeA K) (.tuple ds) (.tuple []) (.bool (!ds.isEmpty)) := fun B H v u e hv hu Q q => by
  cases hv with
  | tup h1 q1 =>
    cases hu with
    | tup h2 q2 =>
      cases q2
      refine .inr ⟨_, _, _, rfl, rfl, .inr ⟨Evl.ex_t e h1, Evl.ex_t e h2⟩, ?_⟩
      rw [Bool.true_xor, empty_iff q1]
      exact q _ B H (Le.refl e) (.bl _)
end MA

set_option maxRecDepth 100000
set_option maxHeartbeats 2000000
namespace MA
open PySem PySem.Spec PyProof.Rows L2
section
variable {K : PySem.W.Frag} {σ : L2.St} {B H : Hp} {tt : TT} {ns : List Int} {F : Int → PyData}
/-- [d[k] for k in d if ..], d a dict that stands for good -/
theorem ev_lcGet {i jk : Nat} {v : V} {vs : List Nat} (f : Int → Bool) (hi : σ[i]? = some (some v)) (hv : Dq K B v (effM ns F)) (hoff : OffOk K F) (e : Ex B H) (hln : ns.length ≤ 1000)
    (ht : ∀ n ∈ ns, ∀ B' H', Ev K (tDGet (tVar i) (tVar jk)) ((wipe σ vs).set jk (some (.int n))) B' H' (F n) → EvT tt ((wipe σ vs).set jk (some (.int n))) B' H' (f n))
    (hs : ∀ y, ((wipe σ vs).set jk (some y))[i]? = some (some v) := by intro _; rfl)
    (hk : ∀ y, ((wipe σ vs).set jk (some y))[jk]? = some (some y) := by intro _; rfl)
    (hw : ∀ y, wipe ((wipe σ vs).set jk (some y)) vs = wipe σ vs := by intro _; rfl) :
    Ev K (tLockE (tLc (iKeys (tVar i)) (gName jk) tt (tDGet (tVar i) (tVar jk)) vs)) σ B H (.list ((ns.filter f).map F)) := by
  have hv0 := hv
  unfold effM at hv
  generalize hE : ns.map (fun n => (PyData.int n, F n)) = L at hv
  cases hv with
  | dct hd hq =>
    rename_i d kvs ds
    obtain ⟨z1, z2⟩ := zip_parts (by have := hq.length; rwa [List.length_map] at this) hE.symm
    subst z2
    have get : ∀ od B1 H1, Le [] B H B1 H1 → ∀ B2 H2, Le [] (dropB B1 d) (upd H1 d (.frz od (.dK kvs))) B2 H2 → ∀ n ∈ ns, Ev K (tDGet (tVar i) (tVar jk)) ((wipe σ vs).set jk (some (.int n))) B2 H2 (F n) := fun od B1 H1 l1 B2 H2 l2 n hn => by
      have hq1 := (hoff.all (l1.b _ _ hd) (hq.mono l1.b)).mono l2.b
      have hdl := l2.k d _ (by simp) upd_same
      have zz := zip_val (K := K) (H := B2) n hq1 hE.symm
      rw [if_pos hn] at zz
      obtain ⟨y, e3, e4⟩ := zz
      exact fun B3 H3 l3 Q q => ⟨.ref d, hs _, .int n, hk _, d, y, rfl, .inl ⟨kvs, .inl n, .inr ⟨od, l3.k d _ (by simp) hdl⟩, rfl, e3.symm⟩, q y B3 H3 (Le.refl l3.h) (e4.mono l3.b)⟩
    exact ev_lcKeys f F hi (e d _ hd) z1 hln (fun od B1 H1 l1 B2 H2 l2 n hn => ht n hn B2 H2 (get od B1 H1 l1 B2 H2 l2 n hn)) (fun od B1 H1 l1 B2 H2 l2 n hn _ => get od B1 H1 l1 B2 H2 l2 n hn) hw
end
end MA

set_option maxRecDepth 100000
set_option maxHeartbeats 2000000
namespace MA
open PySem PySem.Spec PyProof.Rows L2
/-- min of a list of ints -/
theorem rc_minL {K : PySem.W.Frag} {ns : List Int} {m : Int} (hm : m ∈ ns) (hl : ∀ y ∈ ns, m ≤ y) : RC K (rMin K) [.list (ns.map PyData.int)] (.int m) := fun B H vs e hvs Q q => by
  obtain ⟨v, rfl, hv⟩ := dq1 hvs
  cases hv with
  | lst h hq =>
    rename_i a xs
    cases ofInts hq
    refine ⟨a, ns, rfl, .inl (.inl (e _ _ h)), List.length_pos_of_mem hm, fun k hk hy => ?_⟩
    have : k = m := Int.le_antisymm (hy m hm) (hl k hk)
    subst this
    exact q _ B H (Le.refl e) (.int _)
/-! ## == of lists of tuples of ints -/
section
variable {K : PySem.W.Frag} {B H : Hp}
theorem dp_tups (e : Ex B H) : ∀ {xs : List V} {bs : List (List Int)}, DqAll K B xs (bs.map tupB) → DpAll K H xs (bs.map tupB)
  | _, [], h => by cases h; exact .nil
  | _, b :: bs, h => by
    cases h with
    | cons h q =>
      refine .cons ?_ (dp_tups e q)
      cases h with
      | tup h1 q1 =>
        cases ofInts q1
        exact .tup (Evl.ex_t e h1) (dpInts _)
theorem lay_tups : ∀ bs : List (List Int), PyData.canLayAll0 (bs.map tupB) = true
  | [] => rfl
  | b :: bs => by
    show (PyData.canLayAll0 (b.map PyData.int) && PyData.canLayAll0 (bs.map tupB)) = true
    rw [lay_ints, lay_tups bs]
    rfl
theorem depth_tups : ∀ bs : List (List Int), PyData.depthAll (bs.map tupB) ≤ 1
  | [] => Nat.zero_le _
  | b :: bs => by
    show max (PyData.depthAll (b.map PyData.int) + 1) (PyData.depthAll (bs.map tupB)) ≤ 1
    rw [depth_ints]
    exact Nat.max_le.mpr ⟨Nat.le_refl _, depth_tups bs⟩
theorem shaped_LT (bs : List (List Int)) : SeqAt.shaped (.list (bs.map tupB)) = true := by
  show (PyData.canLayAll0 (bs.map tupB) && decide (PyData.depthAll (bs.map tupB) + 1 ≤ 64)) = true
  rw [lay_tups]
  have := depth_tups bs
  simp; omega
theorem eqv_tups : ∀ as bs : List (List Int), PyData.eqvAll (as.map tupB) (bs.map tupB) = decide (as = bs)
  | [], [] => by simp [PyData.eqvAll]
  | [], _ :: _ => by simp [PyData.eqvAll]
  | _ :: _, [] => by simp [PyData.eqvAll]
  | a :: as, b :: bs => by
    show (PyData.eqv (tupB a) (tupB b) && PyData.eqvAll (as.map tupB) (bs.map tupB)) = _
    rw [eqv_tups as bs]
    have : PyData.eqv (tupB a) (tupB b) = decide (a = b) := by
      show PyData.eqv (.tuple (a.map PyData.int)) (.tuple (b.map PyData.int)) = _
      simp only [PyData.eqv]
      exact eqv_ints a b
    rw [this]
    by_cases z : a = b <;> by_cases y : as = bs <;> simp [z, y]
theorem rv_eqLT {as bs : List (List Int)} : RV K (rEqD K) (.list (as.map tupB)) (.list (bs.map tupB)) (.bool (decide (as = bs))) := fun B H v u e hv hu Q q => by
  cases hv with
  | lst h1 q1 =>
    cases hu with
    | lst h2 q2 =>
      refine ⟨.list (as.map tupB), .list (bs.map tupB), .lst (.inl (.inl (e _ _ h1))) (dp_tups e q1), .lst (.inl (.inl (e _ _ h2))) (dp_tups e q2), shaped_LT _, shaped_LT _, ?_⟩
      rw [show PyData.eqv (.list (as.map tupB)) (.list (bs.map tupB)) = decide (as = bs) from by simp only [PyData.eqv]; exact eqv_tups as bs]
      exact q _ B H (Le.refl e) (.bl _)
theorem rv_neLT {as bs : List (List Int)} : RV K (rNeD K) (.list (as.map tupB)) (.list (bs.map tupB)) (.bool (!decide (as = bs))) := fun B H v u e hv hu Q q => by
  cases hv with
  | lst h1 q1 =>
    cases hu with
    | lst h2 q2 =>
      refine ⟨.list (as.map tupB), .list (bs.map tupB), .lst (.inl (.inl (e _ _ h1))) (dp_tups e q1), .lst (.inl (.inl (e _ _ h2))) (dp_tups e q2), shaped_LT _, shaped_LT _, ?_⟩
      rw [show PyData.eqv (.list (as.map tupB)) (.list (bs.map tupB)) = decide (as = bs) from by simp only [PyData.eqv]; exact eqv_tups as bs]
      exact q _ B H (Le.refl e) (.bl _)
end
end MA

set_option maxRecDepth 100000
set_option maxHeartbeats 2000000
namespace MA
open PySem PySem.Spec PyProof.Rows L2
section
variable {K : PySem.W.Frag} {σ : L2.St} {B H : Hp} {te : TE} {tt : TT} {ta : TA}
/-- [.. for k in range(m, n) if ..] -/
theorem ev_lcR2 {m n : Int} {j : Nat} {vs : List Nat} (f : Nat → Bool) (g : Nat → PyData) (h : EvA K ta σ B H [.int m, .int n]) (h0 : 0 ≤ m) (h2 : m ≤ n) (hz : n ≤ 100000)
    (ht : ∀ (i : Nat) B1 H1, Le [] B H B1 H1 → (i : Int) < n - m → EvT tt ((wipe σ vs).set j (some (.int (m + (i : Nat))))) B1 H1 (f i))
    (he : ∀ (i : Nat) B1 H1, Le [] B H B1 H1 → (i : Int) < n - m → f i = true → Ev K te ((wipe σ vs).set j (some (.int (m + (i : Nat))))) B1 H1 (g i))
    (hw : ∀ x, wipe ((wipe σ vs).set j (some x)) vs = wipe σ vs := by intro _; rfl) :
    Ev K (tLc (iRng2 ta) (gName j) tt te vs) σ B H (.list (picked f g (n - m).toNat)) := fun B0 H0 l0 Q q => by
  refine h B0 H0 l0 _ fun us B1 H1 l1 hus => ?_
  obtain ⟨u, v, rfl, hu, hv⟩ := dq2 hus
  cases hu
  cases hv
  refine ⟨m, n, rfl, ⟨by omega, by omega, by omega, by omega⟩, fun D hD => ?_⟩
  have hB := none_of l1.h hD
  refine lc_range (lo := m) (n := (n - m).toNat) (Lw K B1 H1 D f g) ⟨B1, [], Le.made l1.h hD, hB, upd_same, .nil⟩ (fun i Hi hi p => ⟨hw _, ?_⟩) fun Hi p => ?_
  · exact Lw.turn hD p (by omega) (fun Bi l => ht i Bi Hi (l0.trans (l1.trans l)) (by omega)) fun Bi Hj l hf => he i Bi Hj (l0.trans (l1.trans l)) (by omega) hf
  · obtain ⟨Bi, acc, l, hb, hh, hq2⟩ := p
    have lg := l.give hD hb hh
    exact q (.ref D) _ Hi (l1.trans lg) (.lst upd_same (hq2.mono (Evl.Ex.new hb)))
end
end MA

set_option maxRecDepth 100000
set_option maxHeartbeats 2000000
namespace MA
open PySem PySem.Spec PyProof.Rows L2
section
variable {K : PySem.W.Frag} {σ : L2.St} {B H : Hp} {te tA tB tl : TE}
/-- [.. for x, y in zip(ints, ints)] -/
theorem ev_lcZip {xs ys : List Int} {F : Int → Int → PyData} {i1 i2 : Nat} {vs : List Nat} (hA : Ev K tA σ B H (.list (xs.map PyData.int))) (hB : Ev K tB σ B H (.list (ys.map PyData.int))) (hz : xs.length ≤ 1000)
    (he : ∀ x y B1 H1, Le [] B H B1 H1 → Ev K te (((wipe σ vs).set i1 (some (.int x))).set i2 (some (.int y))) B1 H1 (F x y))
    (hw : ∀ x y, wipe (((wipe σ vs).set i1 (some x)).set i2 (some y)) vs = wipe σ vs := by intro _ _; rfl) :
    Ev K (tLc (iZip K (tCons tA (tCons tB tNil))) (gTup K 2 (gCons (gName i1) (gCons (gName i2) gNil))) tYes te vs) σ B H (.list (List.zipWith F xs ys)) := fun B0 H0 l0 Q q => by
  refine hA B0 H0 l0 _ fun u B1 H1 l1 hu => hB B1 H1 (l0.trans l1) _ fun u2 B2 H2 l2 hu2 => ?_
  cases hu with
  | lst hs hq =>
    rename_i a vx
    cases ofInts hq
    cases hu2 with
    | lst hs2 hq2 =>
      rename_i b vy
      cases ofInts hq2
      have l02 := (l0.trans l1).trans l2
      refine ⟨a, b, xs.map V.int, ys.map V.int, rfl, .inl (.inl (l2.h _ _ (l2.b _ _ hs))), .inl (.inl (l2.h _ _ hs2)), fun D hD => ?_⟩
      have hDb := none_of l2.h hD
      refine lc_it (walk_zip (K := K) (a := a) (b := b) (xs := xs.map V.int) (ys := ys.map V.int) (n := min xs.length ys.length) (by rw [List.length_map, List.length_map])) (Lw K B2 H2 D (fun _ => true) fun i => F (xs.getD i 0) (ys.getD i 0)) ⟨B2, [], Le.made l2.h hD, hDb, upd_same, .nil⟩ (fun i Hi _ p => ?_) (fun i x Hi H' hi p y => ?_) fun Hi p => ?_
      · obtain ⟨Bi, acc, l, _⟩ := p
        exact ⟨.inl (.inl (l.h _ _ (l.b _ _ (l2.b _ _ hs)))), .inl (.inl (l.h _ _ (l.b _ _ hs2)))⟩
      · obtain ⟨T, x1, x2, rfl, hT, rfl, f1, f2⟩ := y
        have hix : i < xs.length := by omega
        have hiy : i < ys.length := by omega
        have ex1 : x1 = .int xs[i] := by
          have f1' : (xs.map V.int)[i]? = some x1 := f1
          rw [List.getElem?_map, List.getElem?_eq_getElem hix] at f1'
          exact (Option.some.inj f1').symm
        have ex2 : x2 = .int ys[i] := by
          have f2' : (ys.map V.int)[i]? = some x2 := f2
          rw [List.getElem?_map, List.getElem?_eq_getElem hiy] at f2'
          exact (Option.some.inj f2').symm
        subst ex1 ex2
        obtain ⟨Bi, acc, le, hb, hh, hq⟩ := p
        have ln := Le.new (M := []) (o := .tup [.int xs[i], .int ys[i]]) le.h hT
        have hTD : T ≠ D := fun z => by rw [z, hh] at hT; cases hT
        have p' : Lw K B2 H2 D (fun _ => true) (fun i => F (xs.getD i 0) (ys.getD i 0)) i (upd Hi T (.tup [.int xs[i], .int ys[i]])) :=
          ⟨_, acc, le.trans ln, by rw [upd_ne (Ne.symm hTD)]; exact hb, by rw [upd_ne (Ne.symm hTD)]; exact hh, hq.mono ln.b⟩
        refine gt2 (K := K) (B := upd Bi T (.tup [.int xs[i], .int ys[i]])) ln.h (.tup (.inl (.inl upd_same)) (.cons (.int xs[i]) (.cons (.int ys[i]) .nil))) fun x y hx hy => ?_
        cases hx
        cases hy
        refine ⟨hw _ _, Lw.turn hD p' (by omega) (fun Bj l => et_yes) fun Bj Hj l _ => ?_⟩
        have := he xs[i] ys[i] Bj Hj (l02.trans l)
        rw [show F (xs.getD i 0) (ys.getD i 0) = F xs[i] ys[i] by rw [List.getD_eq_getElem?_getD, List.getD_eq_getElem?_getD, List.getElem?_eq_getElem hix, List.getElem?_eq_getElem hiy]; rfl]
        exact this
      · obtain ⟨Bi, acc, l, hb, hh, hq2⟩ := p
        have lg := l.give hD hb hh
        have e : picked (fun _ => true) (fun i => F (xs.getD i 0) (ys.getD i 0)) (min xs.length ys.length) = List.zipWith F xs ys := by
          unfold picked
          apply List.ext_getElem
          · rw [List.length_map, filter_true, List.length_range, List.length_zipWith]
          · intro i h1 h2
            rw [List.length_zipWith] at h2
            rw [List.getElem_map, List.getElem_zipWith]
            have : (((List.range (min xs.length ys.length)).filter fun _ => true)[i]'(by rw [filter_true, List.length_range]; exact h2)) = i := by
              simp [filter_true]
            rw [this]
            have hix : i < xs.length := by omega
            have hiy : i < ys.length := by omega
            rw [List.getD_eq_getElem?_getD, List.getD_eq_getElem?_getD, List.getElem?_eq_getElem hix, List.getElem?_eq_getElem hiy]
            rfl
        rw [e] at hq2
        exact q (.ref D) _ Hi ((l1.trans l2).trans lg) (.lst upd_same (hq2.mono (Evl.Ex.new hb)))
variable {g : Addr} {c : Nat} {R : PyData → Prop}
/-- [drawn for n, m in a list of pairs] -/
theorem ew_lcPairs {ds : List PyData} {i1 i2 : Nat} {vs : List Nat} (hl : ∀ B1 H1, Le [g] B H B1 H1 → Ev K tl σ B1 H1 (.list ds)) (hz : ds.length ≤ 1000) (hd : ∀ d ∈ ds, ∃ n m : Int, d = .tuple [.int n, .int m])
    (he : ∀ n m B1 H1, Le [g] B H B1 H1 → PyData.tuple [.int n, .int m] ∈ ds → Ew K g c te (((wipe σ vs).set i1 (some (.int n))).set i2 (some (.int m))) B1 H1 R)
    (hw : ∀ x y, wipe (((wipe σ vs).set i1 (some x)).set i2 (some y)) vs = wipe σ vs := by intro _ _; rfl) :
    Ew K g (ds.length * c) (tLc (iList K tl) (gTup K 2 (gCons (gName i1) (gCons (gName i2) gNil))) tYes te vs) σ B H (fun d => ∃ es, d = .list es ∧ es.length = ds.length ∧ ∀ e ∈ es, R e) := fun m B1 H1 hm l w Q q => by
  refine hl B1 H1 l B1 H1 (Le.refl l.h) _ fun u B2 H2 l2 hu => ?_
  cases hu with
  | lst hs hq =>
    rename_i a ys
    have hyl : ys.length = ds.length := hq.length
    have w2 := w.pure l2
    refine ⟨a, rfl, ⟨ys, .inl (.inl (l2.h _ _ hs))⟩, fun D hD => ?_⟩
    have hDb := none_of l2.h hD
    have hDg : D ≠ g := w2.ne hD
    refine lc_list (xs := ys) (fun i Hi => ∃ Bi acc es, Le [g] B2 H2 Bi Hi ∧ Bi D = none ∧ Hi D = some (.lst acc) ∧ DqAll K Bi acc es ∧ es.length = i ∧ i ≤ ys.length ∧ (∀ e ∈ es, R e) ∧ Wl g (m + i * c) Bi Hi)
      ⟨B2, [], [], Le.made l2.h hD, hDb, upd_same, .nil, rfl, Nat.zero_le _, by simp, by rw [Nat.zero_mul]; exact w2.made hD⟩ (fun i Hi _ p => ?_) (fun i x Hi hi p => ?_) (fun Hi p => ?_)
    · obtain ⟨Bi, _, _, le, _⟩ := p
      exact .inl (.inl (le.h _ _ (le.b _ _ hs)))
    · obtain ⟨Bi, acc, es, le, hb, hh, hqa, hel, hil, her, wi⟩ := p
      obtain ⟨d, hdi, hx⟩ := hq.get hi
      have hlt : i < ys.length := (List.getElem?_eq_some_iff.mp hi).1
      obtain ⟨n, k, rfl⟩ := hd d (List.mem_of_getElem? hdi)
      refine gt2 le.h (hx.mono le.b) fun x y hx hy => ?_
      cases hx
      cases hy
      refine ⟨hw _ _, yes_i ?_⟩
      rw [if_pos rfl]
      have hc : i * c + c ≤ ds.length * c := by
        have := Nat.mul_le_mul_right c (show i + 1 ≤ ds.length by omega)
        rw [Nat.add_mul, Nat.one_mul] at this
        exact this
      refine he n k Bi Hi ((l.trans l2.any).trans le) (List.mem_of_getElem? hdi) (m + i * c) Bi Hi (by omega) (Le.refl le.h) wi _ fun d v B3 H3 r l3 w3 hv => ?_
      have b3 := l3.own hh hb
      have h3 := l3.k D _ (by simp [hDg]) hh
      have hsl : 100000 < sizeLine := by rw [sizeLine_eq]; decide
      have hal : acc.length = i := by rw [hqa.length, hel]
      refine ⟨acc, h3, by omega, B3, acc ++ [v], es ++ [d], ?_, b3, upd_same, (hqa.mono l3.b).append (.cons hv .nil), by rw [List.length_append, hel]; rfl, by omega, fun e he => ?_, ?_⟩
      · have la : Le [D, g] B2 H2 B3 (upd H3 D (.lst (acc ++ [v]))) := ((le.trans l3).wk (by simp)).trans (Le.put l3.h b3 (by simp))
        exact la.local hD
      · rcases List.mem_append.mp he with z | z
        · exact her e z
        · rw [List.mem_singleton.mp z]
          exact r
      · have := w3.put (o := .lst (acc ++ [v])) hDg
        rw [show m + (i + 1) * c = m + i * c + c by rw [Nat.add_mul, Nat.one_mul]; omega]
        exact this
    · obtain ⟨Bi, acc, es, le, hb, hh, hqa, hel, _, her, wi⟩ := p
      have lg := le.give hD hb hh
      rw [hyl] at wi hel
      exact q (.list es) (.ref D) _ Hi ⟨es, rfl, hel, her⟩ (l2.any.trans lg) (wi.give hDg) (.lst upd_same (hqa.mono (Evl.Ex.new hb)))
end
end MA

set_option maxRecDepth 100000
set_option maxHeartbeats 2000000
namespace MA
open PySem PySem.Spec PyProof.Rows L2
section
variable {X : Cx}
/-! ## math.lcm of two -/
def rLcm : List V → Hp → VK → Prop := fun vs H Q => ∃ a b : Int, vs = [.int a, .int b] ∧ (a.natAbs < 2 ^ 64 ∧ b.natAbs < 2 ^ 64) ∧ Q (.int ((a.natAbs.lcm b.natAbs : Nat) : Int)) H
theorem cr_lcm : CallR X (.builtin "math.lcm") rLcm := by
  intro pins s σ H vs us Q I r h
  obtain ⟨n, k, rfl, ⟨h0, h1⟩, q⟩ := h
  obtain ⟨t, u, rfl⟩ := Vals.int2 r
  exact PySem.W.mc_lcm h0 h1 fun _ => ⟨.int _, H, I.tok _, ⟨_, rfl⟩, q⟩
end
section
variable {K : PySem.W.Frag} {σ : L2.St} {B H : Hp} {te : TE} {tt : TT} {D : Ends} {tz : TS} {p : Addr}
theorem rc_lcm {a b : Int} (h : a.natAbs < 2 ^ 64 ∧ b.natAbs < 2 ^ 64) : RC K rLcm [.int a, .int b] (.int ((a.natAbs.lcm b.natAbs : Nat) : Int)) := fun B H vs e hvs Q q => by
  obtain ⟨v, u, rfl, hv, hu⟩ := dq2 hvs
  cases hv
  cases hu
  exact ⟨a, b, rfl, h, q _ B H (Le.refl e) (.int _)⟩
theorem dq_bools {B : Hp} : ∀ {bs : List Bool} {xs : List V}, DqAll K B xs (bs.map PyData.bool) → xs = bs.map V.bl
  | [], _, h => by cases h; rfl
  | b :: bs, _, h => by
    cases h with
    | cons h1 h2 =>
      cases h1
      rw [dq_bools h2]
      rfl
theorem rc_any {bs : List Bool} : RC K (rAny K) [.list (bs.map PyData.bool)] (.bool (bs.any id)) := fun B H vs e hvs Q q => by
  obtain ⟨v, rfl, hv⟩ := dq1 hvs
  cases hv with
  | lst h hq =>
    rename_i a xs
    cases dq_bools hq
    exact ⟨a, bs, rfl, .inl (.inl (e _ _ h)), q _ B H (Le.refl e) (.bl _)⟩
theorem ev_m1 : Ev K (tUn (rU fun i => .int (-i)) (tC (.int 1))) σ B H (.int (-1)) := fun B1 H1 l Q q => ⟨1, rfl, q (.int (-1)) B1 H1 (Le.refl l.h) (.int _)⟩
theorem atI_last {α : Type} {xs : List α} {n : Nat} {v : α} (hl : xs.length = n + 1) (h : xs[n]? = some v) : atI xs (-1) = some v := by
  unfold atI ixN
  rw [if_neg (by decide), hl, if_pos (by omega)]
  show xs[_]? = _
  have : (-1 + ((n + 1 : Nat) : Int)).toNat = n := by omega
  rw [this]
  exact h
/-- the last of a list of ours -/
theorem ev_lastOwn {vs : List V} {i n : Nat} {v : V} {d : PyData} (hi : σ[i]? = some (some (.ref p))) (hp : H p = some (.lst vs)) (hl : vs.length = n + 1) (hv : vs[n]? = some v) (hd : Dq K B v d) : Ev K (tOp (rIx K) (tVar i) (tUn (rU fun i => .int (-i)) (tC (.int 1)))) σ B H d := fun B1 H1 l Q q =>
  ⟨.ref p, hi, 1, rfl, ix_own (l.k p _ (by simp) hp) (at_last hl hv) (q v B1 H1 (Le.refl l.h) (hd.mono l.b))⟩
/-- a comprehension over a list of ours -/
theorem ev_lcOwn {xs : List PyData} {ys : List V} {i j : Nat} {vs : List Nat} (h : PyData → PyData) (hi : σ[i]? = some (some (.ref p))) (hp : H p = some (.lst ys)) (hq : DqAll K B ys xs) (hz : xs.length ≤ 100000)
    (he : ∀ (d : PyData) (v : V) B1 H1, Le [] B H B1 H1 → d ∈ xs → Dq K B1 v d → Ev K te ((wipe σ vs).set j (some v)) B1 H1 (h d)) (hw : ∀ x, wipe ((wipe σ vs).set j (some x)) vs = wipe σ vs := by intro _; rfl) :
    Ev K (tLc (iList K (tVar i)) (gName j) tYes te vs) σ B H (.list (xs.map h)) := fun B0 H0 l0 Q q => by
  have hp0 := l0.k p _ (by simp) hp
  refine ⟨.ref p, hi, p, rfl, ⟨ys, .inl (.inl hp0)⟩, fun D hD => ?_⟩
  have hlen := hq.length
  have hDb := none_of l0.h hD
  refine lc_list (xs := ys) (Lw K B0 H0 D (fun _ => true) fun k => h (xs.getD k .none)) ⟨B0, [], Le.made l0.h hD, hDb, upd_same, .nil⟩ (fun k Hi _ pk => ?_) (fun k x Hi hk pk => ⟨hw x, ?_⟩) (fun Hi pk => ?_)
  · obtain ⟨Bi, acc, l, _⟩ := pk
    exact .inl (.inl (l.k p _ (by simp) hp0))
  · obtain ⟨d, hd, hx⟩ := hq.get hk
    have hlt : k < ys.length := (List.getElem?_eq_some_iff.mp hk).1
    refine Lw.turn hD pk (by omega) (fun Bi l => et_yes) fun Bi Hj l _ => ?_
    have := he d x Bi Hj (l0.trans l) (List.mem_of_getElem? hd) ((hx.mono l0.b).mono l.b)
    rw [getD_of hd]
    exact this
  · obtain ⟨Bi, acc, l, hb, hh, hq2⟩ := pk
    have e : picked (fun _ => true) (fun k => h (xs.getD k .none)) ys.length = xs.map h := by
      rw [hlen]
      have := range_getD (β := PyData) PyData.none (fun _ => true) h xs
      unfold picked
      rw [this, filter_true]
    rw [e] at hq2
    have lg := l.give hD hb hh
    exact q (.ref D) _ Hi lg (.lst upd_same (hq2.mono (Evl.Ex.new hb)))
/-- p.append(x), the very value -/
theorem s_appendV {i j : Nat} {v : V} {vs : List V} (hi : σ[i]? = some (some (.ref p))) (hj : σ[j]? = some (some v)) (hpl : H p = some (.lst vs)) (hz : vs.length < 100000) (q : D.nx σ (upd H p (.lst (vs ++ [v])))) : tDrop (tBM K "list" rAppend (tVar i) (tCons (tVar j) tNil)) D σ H := by
  have hsl : 100000 < sizeLine := by rw [sizeLine_eq]; decide
  exact ⟨.ref p, hi, .inl ⟨rfl, vs, .inl (.inl hpl)⟩, v, hj, p, vs, v, rfl, rfl, hpl, by omega, q⟩
theorem q_appendV {i j : Nat} {v : V} {vs : List V} (hi : σ[i]? = some (some (.ref p))) (hj : σ[j]? = some (some v)) (hpl : H p = some (.lst vs)) (hz : vs.length < 100000) (q : tz D σ (upd H p (.lst (vs ++ [v])))) : tSeq (tDrop (tBM K "list" rAppend (tVar i) (tCons (tVar j) tNil))) tz D σ H := s_appendV (D := { D with nx := tz D }) hi hj hpl hz q
end
end MA

set_option maxRecDepth 100000
set_option maxHeartbeats 2000000
namespace MA
open PySem PySem.Spec PyProof.Rows L2
/-! ## many of ours at once -/
theorem Le.dropAll {B H B' H' : Hp} (e : Ex B H) {M : List Addr} : ∀ (as : List Addr), Le M B H B' H' → (∀ a ∈ as, H a = none) → ∃ B2, Le M B H B2 H' ∧ ∀ a ∈ as, B2 a = none
  | [], l, _ => ⟨B', l, by simp⟩
  | a :: as, l, h => by
    obtain ⟨B2, l2, h2⟩ := Le.dropAll e as l fun b hb => h b (List.mem_cons_of_mem _ hb)
    obtain ⟨l3, h3⟩ := l2.drop e (h a (List.mem_cons_self ..))
    refine ⟨dropB B2 a, l3, fun b hb => ?_⟩
    unfold dropB
    split
    · rfl
    · rename_i z
      exact h2 b ((List.mem_cons.mp hb).resolve_left z)
theorem Le.localAll {B H B' H' : Hp} : ∀ (as : List Addr), Le as B H B' H' → (∀ a ∈ as, H a = none) → Le [] B H B' H'
  | [], l, _ => l
  | a :: as, l, h => Le.localAll as (l.local (h a (List.mem_cons_self ..))) fun b hb => h b (List.mem_cons_of_mem _ hb)
section
variable {K : PySem.W.Frag} {σ : L2.St} {B H : Hp} {te tl : TE}
/-- [.. for i, x in enumerate(list)] -/
theorem ev_lcEnum {xs : List PyData} {i1 i2 : Nat} {vs : List Nat} (h : Nat → PyData) (hl : Ev K tl σ B H (.list xs)) (hz : xs.length ≤ 100000)
    (he : ∀ (i : Nat) (d : PyData) (v : V) B1 H1, Le [] B H B1 H1 → xs[i]? = some d → Dq K B1 v d → Ev K te (((wipe σ vs).set i1 (some (.int (i : Nat)))).set i2 (some v)) B1 H1 (h i))
    (hw : ∀ x y, wipe (((wipe σ vs).set i1 (some x)).set i2 (some y)) vs = wipe σ vs := by intro _ _; rfl) :
    Ev K (tLc (iEnum K (tCons tl tNil)) (gTup K 2 (gCons (gName i1) (gCons (gName i2) gNil))) tYes te vs) σ B H (.list ((List.range xs.length).map h)) := fun B0 H0 l0 Q q => by
  refine hl B0 H0 l0 _ fun u B1 H1 l1 hu => ?_
  cases hu with
  | lst hs hq =>
    rename_i a ys
    refine ⟨a, ys, rfl, .inl (.inl (l1.h _ _ hs)), fun D hD => ?_⟩
    have hlen := hq.length
    have hDb := none_of l1.h hD
    refine lc_it (walk_enum (K := K) (a := a) (xs := ys)) (Lw K B1 H1 D (fun _ => true) h) ⟨B1, [], Le.made l1.h hD, hDb, upd_same, .nil⟩ (fun i Hi _ p => ?_) (fun i x Hi H' hi p y => ?_) fun Hi p => ?_
    · obtain ⟨Bi, acc, l, _⟩ := p
      exact .inl (.inl (l.h _ _ (l.b _ _ hs)))
    · obtain ⟨T, x1, x2, rfl, hT, rfl, f1, f2⟩ := y
      cases f1
      obtain ⟨d, hd, hx⟩ := hq.get (show ys[i]? = some x2 from f2)
      obtain ⟨Bi, acc, le, hb, hh, hq'⟩ := p
      have ln := Le.new (M := []) (o := .tup [.int (i : Nat), x2]) le.h hT
      have hTD : T ≠ D := fun z => by rw [z, hh] at hT; cases hT
      have lq := le.trans ln
      have p' : Lw K B1 H1 D (fun _ => true) h i (upd Hi T (.tup [.int (i : Nat), x2])) :=
        ⟨_, acc, lq, by rw [upd_ne (Ne.symm hTD)]; exact hb, by rw [upd_ne (Ne.symm hTD)]; exact hh, hq'.mono ln.b⟩
      have hT' : Dq K (upd Bi T (.tup [.int (i : Nat), x2])) (.ref T) (.tuple [.int (i : Nat), d]) := .tup (.inl (.inl upd_same)) (.cons (.int _) (.cons (hx.mono lq.b) .nil))
      refine ⟨T, _, rfl, .inl (.inl upd_same), rfl, .int (i : Nat), _, rfl, x2, _, rfl, rfl, ?_⟩
      refine ⟨hw _ _, Lw.turn hD p' (by omega) (fun Bj l => et_yes) fun Bj Hj l _ => ?_⟩
      exact he i d x2 Bj Hj (l0.trans (l1.trans l)) hd (hx.mono l.b)
    · obtain ⟨Bi, acc, l, hb, hh, hq2⟩ := p
      have lg := l.give hD hb hh
      have e : picked (fun _ => true) h ys.length = (List.range xs.length).map h := by
        unfold picked
        rw [filter_true, hlen]
      rw [e] at hq2
      exact q (.ref D) _ Hi (l1.trans lg) (.lst upd_same (hq2.mono (Evl.Ex.new hb)))
/-! ## == of lists of lists of ints -/
abbrev lstB (b : List Int) : PyData := .list (b.map PyData.int)
theorem dp_lsts (e : Ex B H) : ∀ {xs : List V} {bs : List (List Int)}, DqAll K B xs (bs.map lstB) → DpAll K H xs (bs.map lstB)
  | _, [], h => by cases h; exact .nil
  | _, b :: bs, h => by
    cases h with
    | cons h q =>
      refine .cons ?_ (dp_lsts e q)
      cases h with
      | lst h1 q1 =>
        cases ofInts q1
        exact .lst (.inl (.inl (e _ _ h1))) (dpInts _)
theorem dp_ours : ∀ {as : List Addr} {bs : List (List Int)}, as.length = bs.length → (∀ (i : Nat) (a : Addr) (l : List Int), as[i]? = some a → bs[i]? = some l → H a = some (.lst (l.map V.int))) → DpAll K H (as.map V.ref) (bs.map lstB)
  | [], [], _, _ => .nil
  | a :: as, b :: bs, hl, h => .cons (.lst (.inl (.inl (h 0 a b rfl rfl))) (dpInts _)) (dp_ours (by simpa using hl) fun i a l ha hb => h (i + 1) a l (by simpa using ha) (by simpa using hb))
  | [], _ :: _, hl, _ => by simp at hl
  | _ :: _, [], hl, _ => by simp at hl
theorem lay_lsts : ∀ bs : List (List Int), PyData.canLayAll0 (bs.map lstB) = true
  | [] => rfl
  | b :: bs => by
    show (PyData.canLayAll0 (b.map PyData.int) && PyData.canLayAll0 (bs.map lstB)) = true
    rw [lay_ints, lay_lsts bs]
    rfl
theorem depth_lsts : ∀ bs : List (List Int), PyData.depthAll (bs.map lstB) ≤ 1
  | [] => Nat.zero_le _
  | b :: bs => by
    show max (PyData.depthAll (b.map PyData.int) + 1) (PyData.depthAll (bs.map lstB)) ≤ 1
    rw [depth_ints]
    exact Nat.max_le.mpr ⟨Nat.le_refl _, depth_lsts bs⟩
theorem shaped_LL (bs : List (List Int)) : SeqAt.shaped (.list (bs.map lstB)) = true := by
  show (PyData.canLayAll0 (bs.map lstB) && decide (PyData.depthAll (bs.map lstB) + 1 ≤ 64)) = true
  rw [lay_lsts]
  have := depth_lsts bs
  simp; omega
theorem eqv_lsts : ∀ as bs : List (List Int), PyData.eqvAll (as.map lstB) (bs.map lstB) = decide (as = bs)
  | [], [] => by simp [PyData.eqvAll]
  | [], _ :: _ => by simp [PyData.eqvAll]
  | _ :: _, [] => by simp [PyData.eqvAll]
  | a :: as, b :: bs => by
    show (PyData.eqv (lstB a) (lstB b) && PyData.eqvAll (as.map lstB) (bs.map lstB)) = _
    rw [eqv_lsts as bs]
    have : PyData.eqv (lstB a) (lstB b) = decide (a = b) := by
      show PyData.eqv (.list (a.map PyData.int)) (.list (b.map PyData.int)) = _
      simp only [PyData.eqv]
      exact eqv_ints a b
    rw [this]
    by_cases z : a = b <;> by_cases y : as = bs <;> simp [z, y]
theorem rv_eqLL {as bs : List (List Int)} : RV K (rEqD K) (.list (as.map lstB)) (.list (bs.map lstB)) (.bool (decide (as = bs))) := fun B H v u e hv hu Q q => by
  cases hv with
  | lst h1 q1 =>
    cases hu with
    | lst h2 q2 =>
      refine ⟨.list (as.map lstB), .list (bs.map lstB), .lst (.inl (.inl (e _ _ h1))) (dp_lsts e q1), .lst (.inl (.inl (e _ _ h2))) (dp_lsts e q2), shaped_LL _, shaped_LL _, ?_⟩
      rw [show PyData.eqv (.list (as.map lstB)) (.list (bs.map lstB)) = decide (as = bs) from by simp only [PyData.eqv]; exact eqv_lsts as bs]
      exact q _ B H (Le.refl e) (.bl _)
/-- ours against what was made -/
theorem et_neOurs {as : List Addr} {bs cs : List (List Int)} {p : Addr} {i : Nat} (hi : σ[i]? = some (some (.ref p))) (hp : H p = some (.lst (as.map V.ref))) (hl : as.length = bs.length) (ha : ∀ (i : Nat) (a : Addr) (l : List Int), as[i]? = some a → bs[i]? = some l → H a = some (.lst (l.map V.int)))
    (hr : Ev K te σ B H (.list (cs.map lstB))) : EvT (tTest (tOp (rNeD K) (tVar i) te)) σ B H (!decide (bs = cs)) := et_test (K := K) fun B1 H1 l Q q => by
  refine ⟨.ref p, hi, ?_⟩
  refine hr B1 H1 l _ fun u B2 H2 l2 hu => ?_
  cases hu with
  | lst h2 q2 =>
    have l' := l.trans l2
    refine ⟨.list (bs.map lstB), .list (cs.map lstB), .lst (.inl (.inl (l'.k p _ (by simp) hp))) (dp_ours hl fun i a x h1 h2 => l'.k a _ (by simp) (ha i a x h1 h2)), .lst (.inl (.inl (l2.h _ _ h2))) (dp_lsts l2.h q2), shaped_LL _, shaped_LL _, ?_⟩
    rw [show PyData.eqv (.list (bs.map lstB)) (.list (cs.map lstB)) = decide (bs = cs) from by simp only [PyData.eqv]; exact eqv_lsts bs cs]
    exact q _ B2 H2 l2 (.bl _)
end
end MA

set_option maxRecDepth 100000
set_option maxHeartbeats 2000000
namespace MA
open PySem PySem.Spec PyProof.Rows L2
section
variable {K : PySem.W.Frag} {σ : L2.St} {B H : Hp}
theorem q_par3 {ta : TA} {i j l : Nat} {D : Ends} {tz : TS} (h : ta σ H fun vs H1 => ∃ u v w, vs = [u, v, w] ∧ tz D (((σ.set i (some u)).set j (some v)).set l (some w)) H1) : tSeq (tPar3 i j l ta) tz D σ H := h
theorem a_cons {te : TE} {ts : TA} {F : List V → Hp → Prop} (h : te σ H fun v H1 => ts σ H1 fun vs H2 => F (v :: vs) H2) : tCons te ts σ H F := h
theorem a_cb {r : List V → Hp → VK → Prop} {ts : TA} {Q : VK} (h : ts σ H fun vs H1 => r vs H1 Q) : tCB r ts σ H Q := h
theorem any_tups {b : List Int} : ∀ {bs : List (List Int)}, ((bs.map tupB).any fun z => PyData.eqv z (tupB b)) = decide (b ∈ bs)
  | [] => by simp
  | a :: bs => by
    rw [List.map_cons, List.any_cons, any_tups]
    have : PyData.eqv (tupB a) (tupB b) = decide (a = b) := by
      show PyData.eqv (.tuple (a.map PyData.int)) (.tuple (b.map PyData.int)) = _
      simp only [PyData.eqv]
      exact eqv_ints a b
    rw [this]
    by_cases z : a = b
    · subst z; simp
    · have z' : ¬ b = a := fun e => z e.symm
      by_cases y : b ∈ bs <;> simp [z, z', y]
theorem rv_inLT {b : List Int} {bs : List (List Int)} : RV K (rInD K) (tupB b) (.list (bs.map tupB)) (.bool (decide (b ∈ bs))) := fun B H v u e hv hu Q q => by
  cases hv with
  | tup h1 q1 =>
    cases ofInts q1
    cases hu with
    | lst h2 q2 =>
      refine ⟨tupB b, bs.map tupB, .tup (Evl.ex_t e h1) (dpInts _), .lst (.inl (.inl (e _ _ h2))) (dp_tups e q2), shaped_T b, shaped_LT _, ?_⟩
      rw [any_tups]
      exact q _ B H (Le.refl e) (.bl _)
theorem rv_notInLT {b : List Int} {bs : List (List Int)} : RV K (rNotInD K) (tupB b) (.list (bs.map tupB)) (.bool (!decide (b ∈ bs))) := fun B H v u e hv hu Q q => by
  cases hv with
  | tup h1 q1 =>
    cases ofInts q1
    cases hu with
    | lst h2 q2 =>
      refine ⟨tupB b, bs.map tupB, .tup (Evl.ex_t e h1) (dpInts _), .lst (.inl (.inl (e _ _ h2))) (dp_tups e q2), shaped_T b, shaped_LT _, ?_⟩
      rw [any_tups]
      exact q _ B H (Le.refl e) (.bl _)
theorem cut_mid {α : Type} (zs : List α) {i j : Int} (h0 : 0 ≤ i) (h1 : i ≤ j) (h2 : j ≤ zs.length) : cutG zs (some i) (some j) = (zs.drop i.toNat).take (j.toNat - i.toNat) := by
  unfold cutG
  have e1 : HT.sIx zs.length 0 (some ((i.toNat : Nat) : Int)) = min i.toNat zs.length := HT.sIx_nat ..
  have e2 : HT.sIx zs.length zs.length (some ((j.toNat : Nat) : Int)) = min j.toNat zs.length := HT.sIx_nat ..
  rw [show ((i.toNat : Nat) : Int) = i by omega] at e1
  rw [show ((j.toNat : Nat) : Int) = j by omega] at e2
  rw [e1, e2, Nat.min_eq_left (by omega), Nat.min_eq_left (by omega)]
theorem rv_eqB {a b : Bool} : RV K (rEqA K) (.bool a) (.bool b) (.bool (a == b)) := fun B H v u e hv hu Q q => by
  cases hv
  cases hu
  refine .inl ⟨rfl, ?_⟩
  rw [dec_bl]
  exact q _ B H (Le.refl e) (.bl _)
theorem rc_sum {ns : List Int} : RC K (rSum K) [.list (ns.map PyData.int)] (.int ns.sum) := fun B H vs e hvs Q q => by
  obtain ⟨v, rfl, hv⟩ := dq1 hvs
  cases hv with
  | lst h hq =>
    rename_i a xs
    cases ofInts hq
    exact ⟨a, ns, rfl, .inl (.inl (e _ _ h)), q _ B H (Le.refl e) (.int _)⟩
end
end MA

set_option maxRecDepth 100000
set_option maxHeartbeats 2000000
namespace MA
open PySem PySem.Spec PyProof.Rows L2
section
variable {X : Cx}
/-- list(o.values()) -/
def tListVals (td : TE) : TE := fun σ H Q => td σ H fun x H1 => ∃ a kvs, x = V.ref a ∧ H1 a = some (.dK kvs) ∧ ∀ p, H1 p = none → Q (.ref p) (upd H1 p (.lst (kvs.map (·.2))))
theorem vals_kv {κ : Type} [DecidableEq κ] : ∀ {kvs : List (κ × V)} {vs : List (κ × Value)}, KV kvs vs → ∀ {us : List Value}, us.length = vs.length → (∀ (j : Nat) (v : Value), us[j]? = some v → ∃ k, vs[j]? = some (k, v)) → Vals (kvs.map (·.2)) us := fun {kvs vs} r {us} hl h => by
  have hkl : kvs.length = vs.length := KV.length r
  refine vals_of_at (by rw [List.length_map]; omega) fun j x u hx hu => ?_
  obtain ⟨k, hk⟩ := h j u hu
  obtain ⟨y, h1, h2⟩ := KV.at' r hk
  rw [List.getElem?_map, h1] at hx
  cases hx
  exact h2
variable {o : Expr} {p pos apos mpos : Pos} {td : TE}
theorem pe_listVals (hc : X.calm = true) (hg : Gl X "list") (hm : X.mg "list" = none) (hd : PE X o td) (hbase : attributeBase o "values" X.env (eval o X.env) = eval o X.env := by rfl) (hline : (apos.endLine == mpos.line) = true := by rfl)
    (hse : starEach [Expr.Call (.Attribute o "values" apos) [] [] mpos] X.env = [(false, eval (Expr.Call (.Attribute o "values" apos) [] [] mpos) X.env)] := by rfl) :
    PE X (.Call (.Name "list" p) [.Call (.Attribute o "values" apos) [] [] mpos] [] pos) (tListVals td) := by
  refine ⟨fun pins s σ H Q I h => ?_⟩
  refine wpAny_Call_Name_kw (ld_blt I hg hm boot_list ?_ (by first | decide +kernel | decide) (by first | decide +kernel | decide))
  rw [hse]
  refine PySem.callWith_type1 (wpAny_Call_method0_late hbase hline (thn (hd.run pins s σ H _ I h) fun v s1 ⟨x, H1, I1, r1, a, kvs, ex, ha, q⟩ => ?_))
  subst ex
  obtain rfl : v = Value.ref a := r1
  obtain ⟨hz, hsys, vs, rel, dof⟩ := dk_of I1.hok ha
  obtain ⟨ep, dat⟩ := dof.dictAt
  have dat' := dat
  obtain ⟨ob, es, ho, ex, hdat, hko, hpr, hnd⟩ := dat'
  refine ⟨"dict", "dict.values", PySem.F.plainAttrs_dict, PySem.F.slot_dict_values, PySem.F.type_dict_values, ⟨ob, ho, ex.1⟩, fun b e => ?_, Calls.callWith_builtin rfl (PySem.evalArgs_none ?_)⟩
  · cases e
    exact ⟨ob, ho, ex.2.1⟩
  refine call_meetsIn PySem.F.slot_dict_values ⟨ob, ho, ex.1⟩ PySem.F.entry_dict_values (PySem.F.args_dict_values_1 _) (meets_dict_values (mixKind X.prog X.w) a hsys) ⟨⟨vs, dof⟩, ?_⟩
  have k1 : ∀ b u, s1.heap.get? b = some u → (s1.heap.push { cls := .type "dict_values", data := .fields #[.ref a] }).get? b = some u := fun b u e => Heap.get?_push_of_some _ e
  have dat1 : (s1.heap.push { cls := .type "dict_values", data := .fields #[.ref a] }).DictAt (mixKind X.prog X.w) a vs ep := dat.keep k1
  have hsz : (s1.heap.push { cls := .type "dict_values", data := .fields #[.ref a] }).objs.size = s1.heap.objs.size + 1 := Heap.size_push _ _
  refine PySem.W.kdl_call (PySem.W.kdl_values (knd := mixKind X.prog X.w) (r := s1.heap.objs.size) (kvs := vs) (ep := ep)) (I1.ok.hd hc) ⟨⟨_, Heap.get?_push_size _ rfl, rfl, rfl⟩, dat1⟩ (by rw [← KV.length rel]; exact hz) fun h' tk acc c' hk hD hacc => ?_
  rw [hsz] at hD ⊢
  have hv : Vals (kvs.map (·.2)) acc.toList := vals_kv rel (by rw [Array.length_toList]; exact hacc.1) fun j v e => hacc.2 j v (by rw [← Array.getElem?_toList]; exact e)
  exact ⟨.ref (s1.heap.objs.size + 1), upd H1 (s1.heap.objs.size + 1) (.lst (kvs.map (·.2))), I1.laid (t' := tk) (fun b u e => hk b u (k1 b u e)) (Nat.le_succ _)
    (show ObjOk X.prog X.w _ _ _ (.lst (kvs.map (·.2))) from ⟨by rw [List.length_map]; exact hz, acc.toList, c', hv, by rw [Array.toArray_toList]; exact hD⟩), rfl, q _ (I1.hok.fresh (Nat.le_succ _))⟩
/-- t.index(x), a tuple of ints -/
def rIndexT (K : PySem.W.Frag) : V → List V → Hp → VK → Prop := fun x xs H Q => ∃ p, ∃ ys : List Int, ∃ z j, x = .ref p ∧ xs = [.int z] ∧ SqT K H p (ys.map V.int) ∧ ys[j]? = some z ∧ (∀ m, m < j → ys[m]? ≠ some z) ∧ Q (.int (j : Nat)) H
theorem mt_tup_indexI : MtR X "tuple.index" (rIndexT X.K) := by
  intro pins s σ H x xs v us Q I rx rs h
  obtain ⟨p, ys, z, j, rfl, rfl, hq, hy, hno, q⟩ := h
  cases rx
  obtain ⟨u, rfl, t, rfl⟩ := vals1 rs
  obtain ⟨its, r, pl, hz⟩ := I.tuple hq
  obtain ⟨⟨cls, dd, dt, sl⟩, ho, hc, n, hd⟩ := pl
  simp only at hc hd
  subst hc
  subst hd
  have hl : its.toArray.size = ys.length := by rw [List.size_toArray, ← r.length, List.length_map]
  have hj : j < its.toArray.size := by rw [hl]; exact (List.getElem?_eq_some_iff.mp hy).1
  have at' : ∀ (m : Nat) (hm : m < its.toArray.size), ∃ y t', ys[m]? = some y ∧ its.toArray[m] = Value.int y t' := fun m hm => by
    have hm' : m < ys.length := by rw [← hl]; exact hm
    obtain ⟨w, hw, t', hw'⟩ := r.get (i := m) (x := .int ys[m]) (by simp [hm'])
    refine ⟨ys[m], t', List.getElem?_eq_getElem hm', ?_⟩
    have e := (List.getElem?_eq_some_iff.mp hw).2
    rw [← hw', ← e]
    simp
  refine call_meets PySem.F.slot_tuple_index ⟨_, ho, rfl⟩ PySem.F.entry_tuple_index (PySem.F.args_tuple_index_2 _ _) (TI.tuple_indexAt p its.toArray n dd sl (.int z t) (eqU (.int z)) j hj ?_ ?_)
    ⟨ho, fun w hw => mem_eqAt (x := .int z) ⟨t, rfl⟩ rfl r (flat_ints ys) w (by simpa using hw), ⟨.int (j : Nat), H, I.tok _, ⟨_, rfl⟩, q⟩⟩
  · obtain ⟨y, t', h1, h2⟩ := at' j hj
    rw [hy] at h1
    cases h1
    rw [h2]
    show (z == z) = true
    exact beq_self_eq_true z
  · intro m hm hmj
    obtain ⟨y, t', h1, h2⟩ := at' m hm
    rw [h2]
    show (y == z) = false
    have := hno m hmj
    rw [h1] at this
    exact beq_eq_false_iff_ne.mpr fun e => this (by rw [e])
end
end MA

set_option maxRecDepth 100000
set_option maxHeartbeats 2000000
namespace MA
open PySem PySem.Spec PyProof.Rows L2
section
variable {K : PySem.W.Frag} {σ : L2.St} {B H : Hp} {tl tl1 te ta tb : TE} {tt : TT} {p : Addr}
/-- [y for x in a list for y in f(x)], ints -/
theorem ev_lc2L {xs : List Int} {j0 j1 : Nat} {vs vs1 : List Nat} (f : Int → List Int) (hl : Ev K tl σ B H (.list (xs.map PyData.int))) (hsz : (xs.flatMap f).length ≤ 100000)
    (hi : ∀ (k : Int) B1 H1, Le [] B H B1 H1 → k ∈ xs → Ev K tl1 ((wipe σ vs).set j0 (some (.int k))) B1 H1 (.tuple ((f k).map PyData.int)))
    (hw : ∀ x, wipe ((wipe σ vs).set j0 (some x)) vs = wipe σ vs := by intro _; rfl)
    (hw1 : ∀ x y, wipe ((wipe ((wipe σ vs).set j0 (some x)) vs1).set j1 (some y)) vs1 = wipe ((wipe σ vs).set j0 (some x)) vs1 := by intro _ _; rfl)
    (hg : ∀ x y, ((wipe ((wipe σ vs).set j0 (some x)) vs1).set j1 (some y))[j1]? = some (some y) := by intro _ _; rfl) :
    Ev K (tLc2 (iList K tl) (gName j0) tYes (iTup K tl1) (gName j1) tYes (tVar j1) vs vs1) σ B H (.list ((xs.flatMap f).map PyData.int)) := fun B0 H0 l0 Q q => by
  refine hl B0 H0 l0 _ fun u B1 H1 l1 hu => ?_
  cases hu with
  | lst hs hq =>
    rename_i a ys
    cases ofInts hq
    have hsl : 100000 < sizeLine := by rw [sizeLine_eq]; decide
    refine ⟨a, rfl, ⟨_, .inl (.inl (l1.h _ _ hs))⟩, fun D hD => ?_⟩
    have b1 := none_of l1.h hD
    refine ⟨fun i m Hi => m = xs.length - i ∧ i ≤ xs.length ∧ ∃ Bi, Le [] B1 H1 Bi Hi ∧ Bi D = none ∧ Hi D = some (.lst (((xs.take i).flatMap f).map V.int)), ⟨_, rfl, Nat.zero_le _, B1, Le.made l1.h hD, b1, upd_same⟩, ?_⟩
    rintro i m Hi ⟨rfl, hi', Bi, le, hb, hh⟩
    have hsq : SqL K Hi a (xs.map V.int) := .inl (.inl (le.h _ _ (le.b _ _ hs)))
    by_cases hlt : i < xs.length
    · have hx : xs[i]? = some xs[i] := List.getElem?_eq_getElem hlt
      have hy : (xs.map V.int)[i]? = some (.int xs[i]) := by rw [List.getElem?_map, hx]; rfl
      have htk : xs.take (i + 1) = xs.take i ++ [xs[i]] := by rw [List.take_add_one, hx]; rfl
      have hbound : ∀ j, ((xs.take i).flatMap f ++ (f xs[i]).take j).length ≤ 100000 := fun j => by
        have e1 : xs.flatMap f = (xs.take i).flatMap f ++ (f xs[i] ++ (xs.drop (i + 1)).flatMap f) := by
          have : xs = xs.take i ++ (xs[i] :: xs.drop (i + 1)) := by rw [List.getElem_cons_drop, List.take_append_drop]
          conv => lhs; rw [this]
          rw [List.flatMap_append, List.flatMap_cons]
        rw [e1, List.length_append, List.length_append] at hsz
        rw [List.length_append, List.length_take]
        omega
      refine .inr ⟨⟨_, _, hsq, hy⟩, fun Hn => ∃ Bi, Le [] B1 H1 Bi Hn ∧ Bi D = none ∧ Hn D = some (.lst (((xs.take (i + 1)).flatMap f).map V.int)), fun Hn p' => ⟨xs.length - (i + 1), by omega, rfl, hlt, p'⟩, fun x Hy y => ?_⟩
      obtain ⟨rfl, y⟩ := y
      have ex : x = .int xs[i] := Option.some.inj ((y _ hsq).symm.trans hy)
      subst ex
      refine ⟨hw _, yes_i ?_⟩
      rw [if_pos rfl]
      refine hi xs[i] Bi Hy (l0.trans (l1.trans le)) (List.getElem_mem hlt) Bi Hy (Le.refl le.h) _ fun u2 B2 H2 l2 hu2 => ?_
      have b2 := l2.own hh hb
      have hh2 := l2.k D _ (by simp) hh
      cases hu2 with
      | tup hs2 hq2 =>
        rename_i a2 ys2
        cases ofInts hq2
        refine ⟨a2, rfl, ⟨_, Evl.ex_t l2.h hs2⟩, fun j kk Hj => kk = (f xs[i]).length - j ∧ j ≤ (f xs[i]).length ∧ ∃ Bj, Le [D] B2 H2 Bj Hj ∧ Bj D = none ∧ Hj D = some (.lst (((xs.take i).flatMap f ++ (f xs[i]).take j).map V.int)), ⟨_, rfl, Nat.zero_le _, B2, Le.refl l2.h, b2, by rw [List.take_zero, List.append_nil]; exact hh2⟩, ?_⟩
        rintro j kk Hj ⟨rfl, hj, Bj, lj, bj, hj2⟩
        have hsq2 : SqT K Hj a2 ((f xs[i]).map V.int) := Evl.ex_t (lj.b.trans lj.h) hs2
        by_cases hlt2 : j < (f xs[i]).length
        · have hz : (f xs[i])[j]? = some (f xs[i])[j] := List.getElem?_eq_getElem hlt2
          have hzv : ((f xs[i]).map V.int)[j]? = some (.int (f xs[i])[j]) := by rw [List.getElem?_map, hz]; rfl
          refine .inr ⟨⟨_, _, hsq2, hzv⟩, fun Hn => ∃ Bj, Le [D] B2 H2 Bj Hn ∧ Bj D = none ∧ Hn D = some (.lst (((xs.take i).flatMap f ++ (f xs[i]).take (j + 1)).map V.int)), fun Hn p' => ⟨(f xs[i]).length - (j + 1), by omega, rfl, hlt2, p'⟩, fun x2 Hy2 y2 => ?_⟩
          obtain ⟨rfl, y2⟩ := y2
          have ex3 : x2 = .int (f xs[i])[j] := Option.some.inj ((y2 _ hsq2).symm.trans hzv)
          subst ex3
          refine ⟨hw1 _ _, yes_i ?_⟩
          rw [if_pos rfl]
          refine ⟨.int (f xs[i])[j], hg _ _, _, hj2, ?_, Bj, lj.trans (Le.put lj.h bj (by simp)), bj, ?_⟩
          · have := hbound j
            rw [List.length_map]
            omega
          · rw [upd_same, List.take_add_one, hz]
            simp only [List.map_append, Option.toList, List.map_cons, List.map_nil, List.append_assoc]
        · refine .inl ⟨⟨_, hsq2, by rw [List.length_map]; omega⟩, ?_⟩
          have ej : j = (f xs[i]).length := by omega
          subst ej
          refine ⟨Bj, (le.any.trans (l2.any.trans lj)).local hD, bj, ?_⟩
          rw [hj2, List.take_length, htk, List.flatMap_append, List.flatMap_cons, List.flatMap_nil, List.append_nil]
    · have ei : i = xs.length := by omega
      subst ei
      refine .inl ⟨⟨_, hsq, by rw [List.length_map]; exact Nat.le_refl _⟩, ?_⟩
      rw [List.take_length] at hh
      have lg := le.give hD hb hh
      exact q (.ref D) _ Hi (l1.trans lg) (.lst upd_same (dqInts _))
/-- what is ours is read as if it were known -/
theorem Le.lend {B H B1 H1 : Hp} {o : HO} (l : Le [] B H B1 H1) (hB : B p = none) (hp : H p = some o) : Le [] (upd B p o) H (upd B1 p o) H1 := by
  have hp1 := l.k p _ (by simp) hp
  refine ⟨fun a u h => ?_, fun a u h => ?_, l.k, l.t, fun a h1 h2 => ?_⟩
  · unfold upd at h ⊢
    split
    · rename_i z; rw [if_pos z] at h; exact h
    · rename_i z; rw [if_neg z] at h; exact l.b a u h
  · unfold upd at h
    split at h
    · rename_i z
      subst z
      cases h
      exact hp1
    · exact l.h a u h
  · unfold upd at h1 h2
    by_cases z : a = p
    · rw [if_pos z] at h1; cases h1
    · rw [if_neg z] at h1 h2
      exact l.n a h1 h2
theorem Le.unlend {B H B2 H2 : Hp} {o : HO} (l : Le [] (upd B p o) H B2 H2) (hB : B p = none) : Le [] B H (dropB B2 p) H2 := by
  refine ⟨fun a u h => ?_, fun a u h => ?_, l.k, l.t, fun a h1 h2 => ?_⟩
  · have hne : a ≠ p := fun z => by rw [z, hB] at h; cases h
    show (if a = p then none else B2 a) = some u
    rw [if_neg hne]
    exact l.b a u (by rw [upd_ne hne]; exact h)
  · unfold dropB at h
    split at h
    · cases h
    · exact l.h a u h
  · unfold dropB at h2
    split at h2
    · exact absurd rfl h2
    · rename_i z
      exact l.n a (by rw [upd_ne z]; exact h1) h2
theorem et_lend {t : TT} {o : HO} {k : Bool} (h : EvT t σ (upd B p o) H k) (hB : B p = none) (hp : H p = some o) : EvT t σ B H k := fun B1 H1 l Q q => by
  have hB1 := l.own hp hB
  refine h (upd B1 p o) H1 (l.lend hB hp) Q fun B2 H2 l2 => q (dropB B2 p) H2 (l2.unlend hB1)
/-- a list as a test -/
theorem et_list {ds : List PyData} (h : Ev K ta σ B H (.list ds)) : EvT (fun σ H Q => ta σ H fun x H' => ∃ k, TruV K x H' k ∧ Q k H') σ B H (!ds.isEmpty) := fun B1 H1 l Q q => by
  refine h B1 H1 l _ fun v B2 H2 l2 hv => ?_
  cases hv with
  | lst hs hq =>
    rename_i a xs
    refine ⟨!ds.isEmpty, .inl ⟨xs, .inl (.inl (l2.h _ _ hs)), ?_⟩, q B2 H2 l2⟩
    have := hq.length
    cases ds <;> cases xs <;> simp at this ⊢
/-- d.get(k) -/
theorem ev_dget1 {td ty : TE} {ns : List Int} {F : Int → PyData} {k : Int} (hd : Ev K td σ B H (effM ns F)) (hk : Ev K ty σ B H (.int k)) : Ev K (tDGet1 td ty) σ B H (if k ∈ ns then F k else .none) := fun B1 H1 l Q q =>
  hd B1 H1 l _ fun v B2 H2 l2 hv => by
    unfold effM at hv
    generalize hE : ns.map (fun n => (PyData.int n, F n)) = L at hv
    cases hv with
    | dct h hq =>
      rename_i a kvs ds
      refine ⟨a, rfl, .inl ⟨kvs, .inl (l2.h _ _ h)⟩, ?_⟩
      refine hk B2 H2 (l.trans l2) _ fun w B3 H3 l3 hw => ?_
      cases hw
      refine ⟨valV kvs (.inl k), DGet.k (k := .inl k) (l3.h _ _ (l3.b _ _ h)), ?_⟩
      have z := zip_val (K := K) (H := B3) k (hq.mono l3.b) hE.symm
      by_cases w : k ∈ ns
      · rw [if_pos w] at z q
        obtain ⟨y, e1, e2⟩ := z
        rw [e1]
        exact q y B3 H3 (l2.trans l3) e2
      · rw [if_neg w] at z q
        rw [z]
        exact q .non B3 H3 (l2.trans l3) .non
/-- d.get(k) == () -/
theorem rv_eqN0 : RV K (rEqD K) .none (.tuple []) (.bool false) := fun B H v u e hv hu Q q => by
  cases hv
  cases hu with
  | tup h2 q2 =>
    cases q2
    exact ⟨.none, .tuple [], .non, .tup (Evl.ex_t e h2) .nil, rfl, rfl, q _ B H (Le.refl e) (.bl _)⟩
theorem rv_eqTD0 {as : List Int} : RV K (rEqD K) (.tuple (as.map PyData.int)) (.tuple []) (.bool as.isEmpty) := fun B H v u e hv hu Q q => by
  have h := rv_eqTD (K := K) (as := as) (bs := []) (B := B) (H := H) v u e hv hu Q
  have e2 : decide (as = []) = as.isEmpty := by cases as <;> simp
  rw [e2] at h
  exact h q
theorem evN_lcL {xs : List PyData} {j : Nat} {vs : List Nat} (f : Nat → Bool) (g : Nat → PyData) (h : Ev K tl σ B H (.list xs)) (hz : xs.length ≤ 100000) (hw : ∀ x, wipe ((wipe σ vs).set j (some x)) vs = wipe σ vs)
    (ht : ∀ (i : Nat) (d : PyData) (v : V) B1 H1, Le [] B H B1 H1 → xs[i]? = some d → Dq K B1 v d → EvT tt ((wipe σ vs).set j (some v)) B1 H1 (f i))
    (he : ∀ (i : Nat) (d : PyData) (v : V) B1 H1, Le [] B H B1 H1 → xs[i]? = some d → Dq K B1 v d → f i = true → Ev K te ((wipe σ vs).set j (some v)) B1 H1 (g i)) :
    EvN K (tLc (iList K tl) (gName j) tt te vs) σ B H (.list (picked f g xs.length)) := fun B0 H0 l0 Q q => h B0 H0 l0 _ fun u B1 H1 l1 hu => by
  cases hu with
  | lst hs hq =>
    rename_i a ys
    refine ⟨a, rfl, ⟨ys, .inl (.inl (l1.h _ _ hs))⟩, fun D hD => ?_⟩
    have hlen := hq.length
    refine lc_list (xs := ys) (Lw K B1 H1 D f g) ⟨B1, [], Le.made l1.h hD, ?_, upd_same, .nil⟩ (fun i Hi _ p => ?_) (fun i x Hi hi p => ⟨hw x, ?_⟩) (fun Hi p => ?_)
    · cases z : B1 D with
      | none => rfl
      | some o => rw [l1.h D o z] at hD; cases hD
    · obtain ⟨Bi, acc, l, _⟩ := p
      exact .inl (.inl (l.h _ _ (l.b _ _ hs)))
    · obtain ⟨d, hd, hx⟩ := hq.get hi
      have hlt : i < ys.length := (List.getElem?_eq_some_iff.mp hi).1
      exact Lw.turn hD p (by omega) (fun Bi l => ht i d x Bi Hi (l0.trans (l1.trans l)) hd (hx.mono l.b)) (fun Bi Hj l hf => he i d x Bi Hj (l0.trans (l1.trans l)) hd (hx.mono l.b) hf)
    · obtain ⟨Bi, acc, l, hb, hh, hq2⟩ := p
      rw [hlen] at hq2
      have lg := l.give hD hb hh
      exact q (.ref D) _ Hi (l1.trans lg) ⟨D, rfl, l1.back hD⟩ (.lst upd_same (hq2.mono (Evl.Ex.new hb)))
theorem evN_compL {xs : List PyData} {j : Nat} {vs : List Nat} (p : PyData → Bool) (h : PyData → PyData) (hl : Ev K tl σ B H (.list xs)) (hz : xs.length ≤ 100000)
    (ht : ∀ (d : PyData) (v : V) B1 H1, Le [] B H B1 H1 → d ∈ xs → Dq K B1 v d → EvT tt ((wipe σ vs).set j (some v)) B1 H1 (p d))
    (he : ∀ (d : PyData) (v : V) B1 H1, Le [] B H B1 H1 → d ∈ xs → Dq K B1 v d → p d = true → Ev K te ((wipe σ vs).set j (some v)) B1 H1 (h d)) (hw : ∀ x, wipe ((wipe σ vs).set j (some x)) vs = wipe σ vs := by intro _; rfl) :
    EvN K (tLc (iList K tl) (gName j) tt te vs) σ B H (.list ((xs.filter p).map h)) := by
  have z := evN_lcL (te := te) (tt := tt) (j := j) (vs := vs) (fun i => p (xs.getD i .none)) (fun i => h (xs.getD i .none)) hl hz hw
    (fun i d v B1 H1 l hd hv => by rw [getD_of hd]; exact ht d v B1 H1 l (List.mem_of_getElem? hd) hv) (fun i d v B1 H1 l hd hv hf => by rw [getD_of hd] at hf ⊢; exact he d v B1 H1 l (List.mem_of_getElem? hd) hv hf)
  unfold picked at z
  rwa [range_getD] at z
theorem q_appendP2 {d : PyData} {D : Ends} {tz : TS} {i : Nat} {vs : List V} (hi : σ[i]? = some (some (.ref p))) (h : Ev K te σ B H d) (e : Ex B H) (hp : B p = none) (hpl : H p = some (.lst vs)) (hz : vs.length < 100000)
    (q : ∀ v B' H', Le [p] B H B' H' → B' p = none → H' p = some (.lst (vs ++ [v])) → Dq K B' v d → tz D σ H') : tSeq (tDrop (tBM K "list" rAppend (tVar i) (tCons te tNil))) tz D σ H := s_append (D := { D with nx := tz D }) hi h e hp hpl hz q
end
end MA

set_option maxRecDepth 100000
set_option maxHeartbeats 2000000
namespace MA
open PySem PySem.Spec PyProof.Rows L2
/-! ## sorted of a tuple of ints -/
section
variable {prog : Program} {w : World} {A : Around} {E : Value → Shared → Prop} {s : Shared}
theorem sorted_tupO {l : Addr} {vs : List Value} {ltv : Value → Value → Bool} {Q : Value → Shared → Prop} (O : SrtO.Swo ltv) (hl : IsTup s.heap l vs.toArray) (hz : vs.length ≤ sizeLine)
    (hS : 2 ≤ vs.length → ∀ (h₁ : Heap) (a : Addr), SrtO.SortableO prog w A.in1.in1 { s with heap := h₁ } a vs ltv)
    (h : ∀ (out : List Value) (h1 h' : Heap), SrtO.Srtd ltv out → SrtO.Stb ltv out vs → (∀ b o, s.heap.get? b = some o → h1.get? b = some o) → (∀ b o, h1.get? b = some o → h'.get? b = some o) → (∃ n, h'.get? h1.objs.size = some (seqObj "list" out.toArray n)) → Q (.ref h1.objs.size) { s with heap := h' }) :
    wpAny (model prog w) A (call (.builtin "sorted") [.ref l]) Q E s := by
  obtain ⟨o, ho, hc, n, hd⟩ := hl
  refine Calls.call_function_entry kind_sorted plain_sorted entry_sorted (args_sorted1 _) ?_
  unfold Builtin.«sorted»
  refine wpAny_bind (m := checkCount "sorted" 1 1 _) (wpAny_pure ?_)
  refine wpAny_bind (wpAny_collect_seq l (T := "tuple") (.inr rfl) ho hc hd (fun h1 k1 => ?_) (by rw [List.size_toArray]; exact hz))
  refine wpAny_bind (wpAny_newList ?_ hz)
  have at1 : (h1.push (seqObj "list" vs.toArray 0)).get? h1.objs.size = some (seqObj "list" vs.toArray 0) := Heap.get?_push_size _ rfl
  refine wpAny_bind (wpAny_holding (wpAny_call_entry slot_list_sort ⟨_, at1, rfl⟩ entry_list_sort (SrtO.list_sort_ord O at1 hz (fun h2 => hS h2 _ _) fun out hs hb => ⟨_, rfl, ?_⟩) (args_list_sort _)))
  obtain ⟨ep, he⟩ := sortedHeap_at (vs := vs) (out := out.toArray) at1
  refine wpAny_pure ⟨_, rfl, h out h1 _ hs hb k1 (fun b o q => ?_) ⟨ep, he⟩⟩
  rw [sortedHeap_old (Nat.ne_of_lt (Heap.lt_size q)) (Heap.lt_size (Heap.get?_push_of_some _ q))]
  exact Heap.get?_push_of_some _ q
end
def rSortedT (K : PySem.W.Frag) : List V → Hp → VK → Prop := fun vs H Q => ∃ (a : Addr) (ns : List Int), vs = [V.ref a] ∧ SqT K H a (ns.map V.int) ∧
  ∀ (ns' : List Int) (p : Addr), ns'.Perm ns → ns'.Pairwise (· ≤ ·) → H p = none → Q (.ref p) (upd H p (.lst (ns'.map V.int)))
theorem cr_sortedT {X : Cx} : CallR X (.builtin "sorted") (rSortedT X.K) := by
  intro pins s σ H vs us Q I r h
  obtain ⟨a, ns, rfl, hs, q⟩ := h
  obtain ⟨its, rv, hl, hz⟩ := I.tuple hs
  rw [Vals.ref1 r]
  have hi := rv.ints
  refine sorted_tupO SrtO.swo_int hl (by rw [← rv.length]; exact hz) (fun h2 h₁ a' => SrtO.ints_sortable hi h2) fun out hp h' h1 h2 keep keep2 he => ?_
  obtain ⟨k1, k2, k3⟩ := SrtO.ints_out hi h1 h2
  obtain ⟨ep, he'⟩ := he
  have hlen : ((out.map SrtO.iv).map V.int).length ≤ sizeLine := by
    rw [List.length_map, k2.length_eq]
    rw [List.length_map] at hz
    exact hz
  have I1 : Inv X pins σ H { s with heap := hp } := I.kept (t' := s.toks) keep
  exact ⟨.ref _, upd H hp.objs.size (.lst ((out.map SrtO.iv).map V.int)), I1.laid (t' := s.toks) keep2 (Nat.le_refl _) ⟨hlen, out, ep, vals_of_ints k1, he'⟩, rfl, q _ _ k2 k3 (I1.hok.fresh (Nat.le_refl _))⟩
theorem rc_sortedT {K : PySem.W.Frag} {ns zs : List Int} (hn : ns.Nodup) (h1 : zs.Pairwise (· < ·)) (hm : ∀ k, k ∈ ns ↔ k ∈ zs) : RC K (rSortedT K) [.tuple (ns.map PyData.int)] (.list (zs.map PyData.int)) := fun B H vs e hvs Q q => by
  obtain ⟨v, rfl, hv⟩ := dq1 hvs
  cases hv with
  | tup hs hq =>
    cases ofInts hq
    refine ⟨_, ns, rfl, Evl.ex_t e hs, fun ns' p hp hw hpn => ?_⟩
    have : ns' = zs := asc_eq (asc_of_sorted hw (hp.nodup_iff.mpr hn)) h1 fun k => hp.mem_iff.trans (hm k)
    subst this
    exact q _ _ _ (Le.new e hpn) (.lst upd_same (dqInts _))
end MA

set_option maxRecDepth 100000
set_option maxHeartbeats 2000000
namespace MA
open PySem PySem.Spec PyProof.Rows L2
section
variable {K : PySem.W.Frag} {g : Addr} {σ : L2.St} {B H : Hp} {m : Nat}
/-! ## tuples in a drawn sequence -/
theorem vpairs_of {B : Hp} : ∀ {ys : List V} {bs : List (List Int)}, DqAll K B ys (bs.map tupB) → ∃ ps : List (V × List Int), ps.map (·.1) = ys ∧ ps.map (·.2) = bs ∧ ∀ x ∈ ps, Dq K B x.1 (tupB x.2)
  | ys, [], h => by
    cases h
    exact ⟨[], rfl, rfl, fun x hx => by cases hx⟩
  | ys, b :: bs, h => by
    cases h with
    | @cons v _ vs _ h1 h2 =>
      obtain ⟨ps, e1, e2, h3⟩ := vpairs_of h2
      exact ⟨(v, b) :: ps, by rw [List.map_cons, e1], by rw [List.map_cons, e2], fun x hx => (List.mem_cons.mp hx).elim (fun e => e ▸ h1) (h3 x)⟩
theorem dq_pairs {B : Hp} : ∀ {ps : List (V × List Int)}, (∀ x ∈ ps, Dq K B x.1 (tupB x.2)) → DqAll K B (ps.map (·.1)) ((ps.map (·.2)).map tupB)
  | [], _ => .nil
  | x :: ps, h => .cons (h x (List.mem_cons_self ..)) (dq_pairs fun y hy => h y (List.mem_cons_of_mem _ hy))
theorem w_popsV {p : Addr} {tn : TA} {j ia ib : Nat} {vs : List Nat} {xs : List (V × List Int)} {n : Int} {Q : VK} (hta : EvA K tn σ B H [.int n]) (e : Ex B H) (hw0 : Wl g m B H) (hp : B p = none) (hpl : H p = some (.lst (xs.map (·.1)))) (hpg : p ≠ g)
    (hxs : ∀ x ∈ xs, Dq K B x.1 (tupB x.2))
    (hw : ∀ x, wipe ((wipe σ vs).set j (some x)) vs = wipe σ vs) (ha : ∀ x, ((wipe σ vs).set j (some x))[ia]? = some (some (.ref p))) (hbb : ∀ x, ((wipe σ vs).set j (some x))[ib]? = some (some (.ref g)))
    (hn0 : 0 ≤ n) (hn : n ≤ xs.length) (hx : xs.length ≤ 1000) (hm : m + n.toNat ≤ 1000000)
    (q : ∀ (acc rest : List (V × List Int)) (v : V) B' H', (acc ++ rest).Perm xs → (acc.length : Int) = n → Le [p, g] B H B' H' → Wl g (m + n.toNat) B' H' → Dq K B' v (.list ((acc.map (·.2)).map tupB)) → Q v H') :
    tLc (iRng1 tn) (gName j) tYes (tBM K "list" rPopAt (tVar ia) (tCons (tCall (PailS K) [] E0 (tCons (tVar ib) (tCons (tCB (rLenA K) (tCons (tVar ia) tNil)) tNil))) tNil)) vs σ H Q := by
  refine hta B H (Le.refl e) _ fun us B1 H1 l1 hus => ?_
  obtain ⟨u, rfl, hu⟩ := dq1 hus
  cases hu
  refine ⟨n, rfl, by omega, by omega, fun D hD => ?_⟩
  have hb1 := hw0.pure l1
  have hp1 : B1 p = none := l1.own hpl hp
  have hpl1 := l1.k p _ (by simp) hpl
  have hDg := hb1.ne hD
  have hDp : D ≠ p := fun z => by rw [z, hpl1] at hD; cases hD
  have hDb := none_of l1.h hD
  have hsl : 1000 < sizeLine := by rw [sizeLine_eq]; decide
  refine lc_range (lo := 0) (n := n.toNat) (fun i Hi => ∃ (Bi : Hp) (acc rest : List (V × List Int)), Le [D, p, g] B1 H1 Bi Hi ∧ Wl g (m + i) Bi Hi ∧ Bi p = none ∧ Hi p = some (.lst (rest.map (·.1))) ∧ Bi D = none ∧ Hi D = some (.lst (acc.map (·.1))) ∧ (acc ++ rest).Perm xs ∧ acc.length = i) ?_ ?_ ?_
  · exact ⟨B1, [], xs, Le.made l1.h hD, hb1.made hD, hp1, by rw [upd_ne (Ne.symm hDp)]; exact hpl1, hDb, upd_same, .refl _, rfl⟩
  · rintro i Hi hi ⟨Bi, acc, rest, li, bi, pi, pl, di, dl, pm, ln⟩
    have hlen := pm.length_eq
    rw [List.length_append] at hlen
    refine ⟨hw _, yes_i ?_⟩
    rw [if_pos rfl]
    refine ⟨.ref p, ha _, .inl ⟨rfl, _, .inl (.inl pl)⟩, ?_⟩
    refine (ew_pailC (K := K) (g := g) (E := E0) (σ := (wipe σ vs).set j (some (.int (0 + (i : Nat))))) (B := Bi) (H := Hi) (i := ib) (te := tCB (rLenA K) (tCons (tVar ia) tNil)) (n := rest.length) (hbb _) (fun B2 H2 l2 B3 H3 l3 Q' q' => ?_) (by omega) (by omega)) (m + i) Bi Hi (by omega) (Le.refl li.h) bi _ fun d v B2 H2 r l2 w2 hv => ?_
    · refine ⟨.ref p, ha _, p, rest.map (·.1), rfl, .inl (.inl (.inl (l3.k p _ (by simp) (l2.k p _ (by simp [hpg]) pl)))), ?_⟩
      rw [List.length_map]
      exact q' _ B3 H3 (Le.refl l3.h) (.int _)
    obtain ⟨r, rfl, r0, r1⟩ := r
    cases hv
    have pl2 := l2.k p _ (by simp [hpg]) pl
    have p2 := l2.own pl pi
    have dl2 := l2.k D _ (by simp [hDg]) dl
    have d2 := l2.own dl di
    have hlt : r.toNat < rest.length := by omega
    have hg : rest[r.toNat]? = some rest[r.toNat] := List.getElem?_eq_getElem hlt
    refine ⟨p, rest.map (·.1), r, r.toNat, rest[r.toNat].1, rfl, rfl, pl2, by omega, by omega, ?_, by rw [List.getElem?_map, hg]; rfl, ?_⟩
    · rw [List.length_map]
      exact idx_nat r0 r1
    rw [erase_mapM]
    have l3 : Le [D, p, g] B2 H2 B2 (upd H2 p (.lst ((rest.eraseIdx r.toNat).map (·.1)))) := Le.put l2.h p2 (by simp)
    have dl3 : (upd H2 p (.lst ((rest.eraseIdx r.toNat).map (·.1)))) D = some (.lst (acc.map (·.1))) := by rw [upd_ne hDp]; exact dl2
    refine ⟨acc.map (·.1), dl3, by rw [List.length_map]; omega, B2, acc ++ [rest[r.toNat]], rest.eraseIdx r.toNat, ?_, ?_, p2, ?_, d2, ?_, ?_, by simp [ln]⟩
    · exact ((li.trans (l2.wk (by simp))).trans l3).trans (Le.put l3.h d2 (by simp))
    · exact ((w2.put hpg).put hDg).mono (by omega)
    · rw [upd_ne (Ne.symm hDp)]; exact upd_same
    · rw [upd_same, List.map_append]; rfl
    · rw [List.append_assoc]
      have pe : (rest[r.toNat] :: rest.eraseIdx r.toNat).Perm rest := erase_permM rest r.toNat _ hg
      exact (List.Perm.append_left acc pe).trans pm
  · rintro Hi ⟨Bi, acc, rest, li, bi, pi, pl, di, dl, pm, ln⟩
    have lg := (li.give hD di dl).local hD
    have lb := l1.b.trans lg.b
    exact q acc rest (.ref D) _ Hi pm (by omega) (l1.any.trans lg) (bi.give hDg) (.lst upd_same (dq_pairs fun x hx => (hxs x (pm.mem_iff.mp (List.mem_append_left _ hx))).mono lb))
/-! ## [x] * k, list(dict) -/
theorem rv_mulLI {as : List Int} {k : Int} (h0 : 0 ≤ k) (h1 : k ≤ 1000) (h2 : as.length ≤ 64) : RV K (rMulA K) (.list (as.map PyData.int)) (.int k) (.list ((List.replicate k.toNat as).flatten.map PyData.int)) := fun B H v u e hv hu Q q => by
  cases hu
  cases hv with
  | lst hs hq =>
    cases ofInts hq
    rename_i a
    refine .inr (.inr ⟨a, k, _, rfl, rfl, e _ _ hs, by omega, by omega, ?_, fun p hp => ?_⟩)
    · rw [List.length_map]
      refine Nat.le_trans (Nat.mul_le_mul h2 (show k.toNat ≤ 1000 by omega)) (by rw [sizeLine_eq]; decide)
    · have e1 : (List.replicate k.toNat (as.map V.int)).flatten = (List.replicate k.toNat as).flatten.map V.int := by
        rw [List.map_flatten, List.map_replicate]
      rw [e1]
      exact q _ _ _ (Le.new e hp) (.lst upd_same (dqInts _))
theorem rc_listDM {ns : List Int} {F : Int → PyData} : RC K (fun xs H Q => ∃ (a : Addr) (kvs : List (Key × V)), xs = [.ref a] ∧ Rd H a (.dK kvs) ∧ ∀ p, H p = none → Q (.ref p) (upd H p (.lst (kvs.map fun kv => kV kv.1)))) [effM ns F] (.list (ns.map PyData.int)) := fun B H vs e hvs Q q => by
  obtain ⟨v, rfl, hv⟩ := dq1 hvs
  unfold effM at hv
  generalize hE : ns.map (fun n => (PyData.int n, F n)) = L at hv
  cases hv with
  | dct hd hq =>
    rename_i d kvs ds
    obtain ⟨z1, z2⟩ := zip_parts (by have := hq.length; rwa [List.length_map] at this) hE.symm
    refine ⟨d, kvs, rfl, .inl (e _ _ hd), fun p hp => ?_⟩
    have e1 : kvs.map (fun kv => kV kv.1) = ns.map V.int := by
      have : kvs.map (fun kv => kV kv.1) = (kvs.map (·.1)).map kV := by rw [List.map_map]; rfl
      rw [this, z1, List.map_map]
      rfl
    rw [e1]
    exact q _ _ _ (Le.new e hp) (.lst upd_same (dqInts _))
theorem rv_neB {a b : Bool} : RV K (rNeA K) (.bool a) (.bool b) (.bool (!(a == b))) := fun B H v u e hv hu Q q => by
  cases hv
  cases hu
  refine .inl ⟨rfl, ?_⟩
  have e1 : (!decide (V.bl a = V.bl b)) = !(a == b) := by rw [dec_bl]
  first
    | (rw [e1]; exact q _ B H (Le.refl e) (.bl _))
    | (rw [dec_bl]; exact q _ B H (Le.refl e) (.bl _))
end
end MA

set_option maxRecDepth 100000
set_option maxHeartbeats 2000000
namespace MA
open PySem PySem.Spec PyProof.Rows L2
section
variable {K : PySem.W.Frag} {σ : L2.St} {B H : Hp}
theorem rc_listOfT {ds : List PyData} : RC K (fun xs H Q => ∃ p ys, xs = [L2.V.ref p] ∧ (L2.SqL K H p ys ∨ L2.SqT K H p ys) ∧ ∀ (l : Addr), H l = none → Q (L2.V.ref l) (L2.upd H l (L2.HO.lst ys))) [.tuple ds] (.list ds) := fun B H vs e hvs Q q => by
  obtain ⟨v, rfl, hv⟩ := dq1 hvs
  cases hv with
  | tup hs hq =>
    rename_i a ys
    exact ⟨a, ys, rfl, .inr (Evl.ex_t e hs), fun l hl => q (.ref l) _ _ (Le.new e hl) (.lst upd_same (hq.mono (Evl.Ex.new (none_of e hl))))⟩
/-- y.extend(..) of own list y, for each of a list; then y is given -/
theorem q_forExt {B1 H1 : Hp} {p : Addr} {xs : List PyData} {tl te : TE} {i j : Nat} {es : PyData → List Int} {tz : TS} {D : Ends} (lm : Le [p] B H B1 H1) (hp : H p = none) (hb1 : B1 p = none) (hp1 : H1 p = some (.lst [])) (hl : Ev K tl σ B1 H1 (.list xs)) (hsz : (xs.flatMap es).length ≤ 100000)
    (I : L2.St → Prop) (h0 : I σ) (hI : ∀ σ' v, I σ' → I (σ'.set i (some v)) ∧ (σ'.set i (some v))[j]? = some (some (.ref p)))
    (hs : ∀ (d : PyData) (v : V) σ' B' H', Le [p] B H B' H' → d ∈ xs → Dq K B' v d → I σ' → Ev K te (σ'.set i (some v)) B' H' (.list ((es d).map PyData.int)))
    (q : ∀ σ' B' H', Le [] B H B' H' → I σ' → Dq K B' (.ref p) (.list ((xs.flatMap es).map PyData.int)) → tz D σ' H') :
    tSeq (tFor (iList K tl) (gName i) (tDrop (tBM K "list" rExtend (tVar j) (tCons te tNil)))) tz D σ H1 := by
  refine hl B1 H1 (Le.refl lm.h) _ fun v B2 H2 l1 hv => ?_
  cases hv with
  | lst hv hq =>
    rename_i a ys
    have hp2 := l1.k p _ (by simp) hp1
    have hb2 := l1.own hp1 hb1
    have hsl : 100000 < sizeLine := by rw [sizeLine_eq]; decide
    refine ⟨a, rfl, ⟨ys, .inl (.inl (l1.h _ _ hv))⟩, for_list (xs := ys) (fun n σ' H' => ∃ B', Le [p] B2 H2 B' H' ∧ I σ' ∧ B' p = none ∧ H' p = some (.lst (((xs.take n).flatMap es).map V.int))) ⟨B2, Le.refl l1.h, h0, hb2, hp2⟩ (fun n σ' H' _ w => ?_) (fun n x σ' H' hn w => ?_) (fun σ' H' w => ?_)⟩
    · obtain ⟨B', l, _⟩ := w
      exact .inl (.inl (l.h _ _ (l.b _ _ hv)))
    · obtain ⟨B', l, hi, hb, hh⟩ := w
      obtain ⟨d, hd, hx⟩ := hq.get hn
      obtain ⟨i1, i2⟩ := hI σ' x hi
      have tk : (xs.take (n + 1)).flatMap es = (xs.take n).flatMap es ++ es d := by
        rw [List.take_add_one, hd, List.flatMap_append]
        congr 1
        exact List.append_nil _
      have ln : ((xs.take n).flatMap es).length + (es d).length ≤ 100000 := by
        have e2 : (xs.take (n + 1)).flatMap es ++ (xs.drop (n + 1)).flatMap es = xs.flatMap es := by rw [← List.flatMap_append, List.take_append_drop]
        have := congrArg List.length e2
        rw [List.length_append, tk, List.length_append] at this
        omega
      refine ⟨.ref p, i2, .inl ⟨rfl, _, .inl (.inl hh)⟩, ?_⟩
      have lB : Le [p] B H B' H' := (lm.trans l1.any).trans l
      refine hs d x σ' B' H' lB (List.mem_of_getElem? hd) (hx.mono l.b) hi B' H' (Le.refl l.h) _ fun u B3 H3 l2 hu => ?_
      cases hu with
      | lst hs2 hq2 =>
        rename_i b us
        cases ofInts hq2
        have hp3 := l2.own hh hb
        have hh2 := l2.k p _ (by simp) hh
        refine ⟨p, b, _, _, rfl, rfl, hh2, l2.h _ _ hs2, by rw [List.length_map, List.length_map]; omega, ?_⟩
        refine ⟨B3, (l.trans l2.any).trans (Le.put l2.h hp3 (by simp)), i1, hp3, ?_⟩
        rw [upd_same, tk, List.map_append]
    · obtain ⟨B', l, hi, hb, hh⟩ := w
      rw [hq.length, List.take_length] at hh
      have lg := (((lm.trans l1.any).trans l).give hp hb hh).local hp
      exact q σ' _ H' lg hi (.lst upd_same (dqInts _))
/-- a loop over a drawn list -/
theorem w_forSrc {g : Addr} {c m : Nat} {tl : TE} {gg : TG} {tb tz : TS} {D : Ends} {S : List PyData → Prop} (hl : Ew K g c tl σ B H (fun d => ∃ xs, d = .list xs ∧ S xs)) (hm : m + c ≤ 1000000) (e : Ex B H) (w : Wl g m B H)
    (q : ∀ xs v B' H', S xs → Le [g] B H B' H' → Wl g (m + c) B' H' → Dq K B' v (.list xs) → tSeq (tFor (iList K (fun _ H Q => Q v H)) gg tb) tz D σ H') : tSeq (tFor (iList K tl) gg tb) tz D σ H := by
  refine hl m B H hm (Le.refl e) w _ fun d v B' H' hd l w' hv => ?_
  obtain ⟨xs, rfl, hS⟩ := hd
  exact q xs v B' H' hS l w' hv
theorem ev_val {v : V} {d : PyData} (hv : Dq K B v d) : Ev K (fun _ H Q => Q v H) σ B H d := fun B1 H1 l Q q => q v B1 H1 (Le.refl l.h) (hv.mono l.b)
theorem ev_listVals {td : TE} {ns : List Int} {F : Int → PyData} (h : Ev K td σ B H (effM ns F)) : Ev K (tListVals td) σ B H (.list (ns.map F)) := fun B1 H1 l Q q => by
  refine h B1 H1 l _ fun v B2 H2 l2 hv => ?_
  unfold effM at hv
  generalize hE : ns.map (fun n => (PyData.int n, F n)) = L at hv
  cases hv with
  | dct hd hq =>
    rename_i d kvs ds
    obtain ⟨z1, z2⟩ := zip_parts (by have := hq.length; rwa [List.length_map] at this) hE.symm
    subst z2
    refine ⟨d, kvs, rfl, l2.h _ _ hd, fun p hp => ?_⟩
    exact q _ _ _ (l2.trans (Le.new l2.h hp)) (.lst upd_same (hq.mono (Evl.Ex.new (none_of l2.h hp))))
end
end MA

set_option maxRecDepth 100000
set_option maxHeartbeats 2000000
namespace MA
open PySem PySem.Spec PyProof.Rows L2
section
variable {X : Cx}
/-! ## y.extend(a tuple) -/
def rExtendT (K : PySem.W.Frag) : V → List V → Hp → VK → Prop := fun x vs H Q => ∃ l b xs zs, x = .ref l ∧ vs = [.ref b] ∧ H l = some (.lst xs) ∧ SqT K H b zs ∧ xs.length + zs.length ≤ sizeLine ∧ Q .non (upd H l (.lst (xs ++ zs)))
theorem mt_extendT : MtM X "list.extend" (rExtendT X.K) := by
  intro pins s σ H x vs v us Q I rx rv h
  obtain ⟨l, b, xs, zs, rfl, rfl, hH, hB, hz, q⟩ := h
  cases rx
  obtain ⟨u, rfl, ru⟩ := rv.one
  cases ru
  obtain ⟨z, its, n, r, hl, e⟩ := I.lstM hH
  obtain ⟨its2, r2, ⟨o, ho, hc, n2, hd⟩, z2⟩ := I.tuple hB
  have hl2 : its2.length = zs.length := r2.length.symm
  have hsz : its.toArray.size + its2.toArray.size ≤ sizeLine := by rw [List.size_toArray, List.size_toArray]; omega
  have hlong : ¬ (!its.toArray.isEmpty && Builtin.List.listTooLong (its.toArray.size + its2.toArray.size)) = true := by
    rw [notLongL hsz, Bool.and_false]
    exact Bool.false_ne_true
  refine wpAny_call_entry F.slot_list_extend ⟨_, e, rfl⟩ F.entry_list_extend ?_ (F.args_list_extend_2 _ _)
  unfold Builtin.«list.extend»
  refine wpAny_bind (wpAny_pure ?_)
  show wpAny _ _ (Builtin.List.listExtendWith (.ref l) (.ref b) .none) _ _ _
  unfold Builtin.List.listExtendWith
  refine wpAny_bind (wpAny_typeOf (T := "tuple") ⟨o, ho, hc⟩ ?_)
  rw [if_pos (by simp)]
  refine wpAny_bind (listItems_at ho hd ?_)
  refine wpAny_bind (listItems_at e rfl ?_)
  rw [if_neg hlong]
  refine wpAny_bind (listUpdate_at e rfl ?_ (by rw [List.size_toArray]; omega) (by show (its.toArray ++ its2.toArray).size ≤ _; rw [Array.size_append]; omega))
  refine wpAny_pure ⟨.none, rfl, .non, _, I.lset (t' := s.toks) (its' := its ++ its2) hH e (by simp) (r.append r2) ?_, rfl, q⟩
  rw [List.length_append]
  omega
def rExtendA (K : PySem.W.Frag) : V → List V → Hp → VK → Prop := fun x vs H Q => rExtend x vs H Q ∨ rExtendT K x vs H Q
theorem mt_extendA : MtM X "list.extend" (rExtendA X.K) := fun pins s σ H x xs v us Q I rx rxs h => h.elim (mt_extend pins s σ H x xs v us Q I rx rxs) (mt_extendT pins s σ H x xs v us Q I rx rxs)
end
section
variable {K : PySem.W.Frag} {σ : L2.St} {B H : Hp} {ns : List Int} {F : Int → PyData}
/-- for x in d.values(), own things may change within -/
theorem q_forV {i j : Nat} {v : V} {M : List Addr} {tb tz : TS} {D : Ends} (hi : σ[i]? = some (some v)) (hv : Dq K B v (effM ns F)) (hoff : OffOk K F) (e : Ex B H) (hM : ∀ a ∈ M, B a = none)
    (I : Nat → L2.St → Hp → Hp → Prop)
    (h : ∀ d Bl Hl, v = .ref d → d ∉ M → Bl = dropB B d → Ex Bl Hl → (∀ a, a ≠ d → Hl a = H a) →
      I 0 σ Bl Hl ∧ (∀ k n x σ' B' H' N D', ns[k]? = some n → Dq K B' x (F n) → Le M Bl Hl B' H' → I k σ' B' H' → D'.nx = N → (∀ σ3 B3 H3, Le M B' H' B3 H3 → I (k + 1) σ3 B3 H3 → N σ3 H3) → tb D' (σ'.set j (some x)) H') ∧
      (∀ σ' B' H' B2 H2, Le M Bl Hl B' H' → I ns.length σ' B' H' → Le M B H B2 H2 → Ex B' B2 → (∀ a, a ≠ d → B2 a = B' a ∧ H2 a = H' a) → tz D σ' H2)) :
    tSeq (tLock (tFor (iVals (tVar i)) (gName j) tb)) tz D σ H := by
  unfold effM at hv
  generalize hE : ns.map (fun n => (PyData.int n, F n)) = L at hv
  cases hv with
  | dct hd hq =>
    rename_i d kvs ds
    obtain ⟨z1, z2⟩ := zip_parts (by have := hq.length; rwa [List.length_map] at this) hE.symm
    subst z2
    have hdM : d ∉ M := fun z => by rw [hM d z] at hd; cases hd
    have hdH := e d _ hd
    refine ⟨d, .dK kvs, hdH, trivial, fun od => ?_⟩
    have e1 := lock_le (od := od) e hdH
    have hq1 := hoff.all hd hq
    have kl : kvs.length = ns.length := by have := congrArg List.length z1; rwa [List.length_map, List.length_map] at this
    obtain ⟨h0, hs, hz⟩ := h d (dropB B d) (upd H d (.frz od (.dK kvs))) rfl hdM rfl e1 (fun a ha => upd_ne ha)
    refine ⟨.ref d, hi, d, od, kvs, rfl, upd_same, ?_⟩
    have W := walk_values (d := d) (o := od) (kvs := kvs)
    refine ⟨fun t m σ' H' => m = ns.length - t ∧ t ≤ ns.length ∧ ∃ B', Le M (dropB B d) (upd H d (.frz od (.dK kvs))) B' H' ∧ I t σ' B' H', ⟨_, rfl, Nat.zero_le _, _, Le.refl e1, h0⟩, ?_⟩
    rintro t m σ' H' ⟨rfl, ht, B', l, hI⟩
    have G : H' d = some (.frz od (.dK kvs)) := l.k d _ hdM upd_same
    by_cases hlt : t < ns.length
    · have en : ns[t]? = some ns[t] := List.getElem?_eq_getElem hlt
      refine .inr ⟨W.goes t H' (by omega) G, fun σ3 H3 => ∃ B3, Le M (dropB B d) (upd H d (.frz od (.dK kvs))) B3 H3 ∧ I (t + 1) σ3 B3 H3, fun σ3 H3 p => ⟨ns.length - (t + 1), by omega, rfl, hlt, p⟩, fun x Hy y => ?_⟩
      obtain ⟨rfl, kk, ekv⟩ := W.yields t H' x Hy (by omega) G y
      have hx : Dq K (dropB B d) x (F ns[t]) := by
        obtain ⟨dx, e3, e4⟩ := hq1.get (show (kvs.map (·.2))[t]? = some x by rw [List.getElem?_map, ekv]; rfl)
        rw [List.getElem?_map, en] at e3
        cases e3
        exact e4
      exact hs t ns[t] x σ' B' Hy _ _ en (hx.mono l.b) l hI rfl fun σ3 B3 H3 l3 hI3 => ⟨B3, l.trans l3, hI3⟩
    · have et : t = ns.length := by omega
      subst et
      obtain ⟨y1, y2, y3⟩ := lock_backM e hdH hdM l
      refine .inl ⟨by rw [← kl]; exact W.stops H' G, ?_⟩
      exact ⟨y1, hz σ' B' H' _ _ l hI y2 y3 fun a ha => ⟨if_neg ha, upd_ne ha⟩⟩
theorem ev_lenDict {te : TE} (h : Ev K te σ B H (effM ns F)) : Ev K (tCB rLenR (tCons te tNil)) σ B H (.int ((ns.length : Nat) : Int)) := fun B1 H1 l Q q => by
  refine h B1 H1 l _ fun v B2 H2 l2 hv => ?_
  unfold effM at hv
  generalize hE : ns.map (fun n => (PyData.int n, F n)) = L at hv
  cases hv with
  | dct hd hq =>
    rename_i d kvs ds
    obtain ⟨z1, z2⟩ := zip_parts (by have := hq.length; rwa [List.length_map] at this) hE.symm
    have kl : kvs.length = ns.length := by have := congrArg List.length z1; rwa [List.length_map, List.length_map] at this
    refine ⟨d, kvs, rfl, .inl (l2.h _ _ hd), ?_⟩
    rw [kl]
    exact q _ B2 H2 l2 (.int _)
/-- [e(x) for x in d.values()] -/
theorem ev_lcValsG {te : TE} {i jk : Nat} {v : V} {vs : List Nat} (G : Int → PyData) (hi : σ[i]? = some (some v)) (hv : Dq K B v (effM ns F)) (hoff : OffOk K F) (hln : ns.length ≤ 1000)
    (he : ∀ n ∈ ns, ∀ x B' H', Ex B' H' → Dq K B' x (F n) → Ev K te ((wipe σ vs).set jk (some x)) B' H' (G n))
    (e : Ex B H) (hw : ∀ y, wipe ((wipe σ vs).set jk (some y)) vs = wipe σ vs := by intro _; rfl) :
    Ev K (tLockE (tLc (iVals (tVar i)) (gName jk) tYes te vs)) σ B H (.list (ns.map G)) := by
  unfold effM at hv
  generalize hE : ns.map (fun n => (PyData.int n, F n)) = L at hv
  cases hv with
  | dct hd hq =>
    rename_i d kvs ds
    obtain ⟨z1, z2⟩ := zip_parts (by have := hq.length; rwa [List.length_map] at this) hE.symm
    subst z2
    refine ev_lock (e d _ hd) fun od B1 H1 l1 hd1 => ?_
    have e1 := lock_le (od := od) l1.h hd1
    have hq1 := hoff.all (l1.b _ _ hd) (hq.mono l1.b)
    generalize hBl : dropB B1 d = Bl at e1 hq1 ⊢
    generalize hHl : upd H1 d (.frz od (.dK kvs)) = Hl at e1 ⊢
    have hdl : Hl d = some (.frz od (.dK kvs)) := by rw [← hHl]; exact upd_same
    clear hHl hBl
    intro B2 H2 l2 Q q
    have hd2 := l2.k d _ (by simp) hdl
    have kl : kvs.length = ns.length := by have := congrArg List.length z1; rwa [List.length_map, List.length_map] at this
    refine ⟨.ref d, hi, d, od, kvs, rfl, hd2, fun D hD => ?_⟩
    have hDb := none_of l2.h hD
    have hsl : 1000 < sizeLine := by rw [sizeLine_eq]; decide
    refine lc_it (walk_values (d := d) (o := od) (kvs := kvs)) (fun i Hi => ∃ Bi ws, Le [] B2 H2 Bi Hi ∧ Bi D = none ∧ Hi D = some (.lst ws) ∧ DqAll K Bi ws ((ns.take i).map G)) ⟨B2, [], Le.made l2.h hD, hDb, upd_same, .nil⟩ (fun i Hi _ p => ?_) (fun i y Hi Hi' hlt p yy => ?_) (fun Hi p => ?_)
    · obtain ⟨Bi, ws, le, _⟩ := p
      exact le.k d _ (by simp) hd2
    · obtain ⟨rfl, kk, ekv⟩ := yy
      obtain ⟨Bi, ws, le, hbi, hh, hqw⟩ := p
      have hlt' : i < ns.length := by omega
      have en : ns[i]? = some ns[i] := List.getElem?_eq_getElem hlt'
      have hnm : ns[i] ∈ ns := List.getElem_mem hlt'
      obtain ⟨dd, ed, hy⟩ := (hq1.mono (l2.trans le).b).get (i := i) (v := y) (by rw [List.getElem?_map, ekv]; rfl)
      rw [List.getElem?_map, en] at ed
      cases ed
      have htk := take_one en
      refine ⟨hw _, yes_i ?_⟩
      rw [if_pos rfl]
      refine he ns[i] hnm y Bi Hi' le.h hy Bi Hi' (Le.refl le.h) _ fun u B3 H3 l3 hu => ?_
      have h3 := l3.k D _ (by simp) hh
      have b3 := l3.own hh hbi
      have q3 := hqw.mono l3.b
      have hwl : ws.length ≤ 1000 := by
        rw [hqw.length, List.length_map, List.length_take]
        omega
      refine ⟨ws, h3, by omega, B3, ws ++ [u], ?_, b3, upd_same, ?_⟩
      · exact ((le.any.trans l3.any).trans (Le.put (M := [D]) l3.h b3 (by simp))).local hD
      · rw [htk, List.map_append]
        exact q3.append (.cons hu .nil)
    · obtain ⟨Bi, ws, le, hbi, hh, hqw⟩ := p
      rw [kl, List.take_length] at hqw
      have lg := le.give hD hbi hh
      exact q (.ref D) _ Hi lg (.lst upd_same (hqw.mono (Evl.Ex.new hbi)))
/-- [e(k, x) for k, x in d.items()] -/
theorem ev_lcItemsG {te : TE} {i js jb : Nat} {v : V} {vs : List Nat} (G : Int → PyData) (hi : σ[i]? = some (some v)) (hv : Dq K B v (effM ns F)) (hoff : OffOk K F) (hln : ns.length ≤ 1000)
    (he : ∀ n ∈ ns, ∀ d x B0 B' H', v = .ref d → (∃ kvs, B0 d = some (.dK kvs)) → Ex B B0 → Ex (dropB B0 d) B' → Ex B' H' → Dq K B' x (F n) → Ev K te (((wipe σ vs).set js (some (.int n))).set jb (some x)) B' H' (G n))
    (e : Ex B H) (hw : ∀ x y, wipe (((wipe σ vs).set js (some x)).set jb (some y)) vs = wipe σ vs := by intro _ _; rfl) :
    Ev K (tLockE (tLc (iItems (tVar i)) (gTup K 2 (gCons (gName js) (gCons (gName jb) gNil))) tYes te vs)) σ B H (.list (ns.map G)) := by
  unfold effM at hv
  generalize hE : ns.map (fun n => (PyData.int n, F n)) = L at hv
  cases hv with
  | dct hd hq =>
    rename_i d kvs ds
    obtain ⟨z1, z2⟩ := zip_parts (by have := hq.length; rwa [List.length_map] at this) hE.symm
    subst z2
    refine ev_lock (e d _ hd) fun od B1 H1 l1 hd1 => ?_
    have e1 := lock_le (od := od) l1.h hd1
    have hq1 := hoff.all (l1.b _ _ hd) (hq.mono l1.b)
    have hB1d := l1.b _ _ hd
    have he1 := fun n hn x B' H' (a1 : Ex (dropB B1 d) B') (a2 : Ex B' H') (a3 : Dq K B' x (F n)) => he n hn d x B1 B' H' rfl ⟨_, hB1d⟩ l1.b a1 a2 a3
    generalize hBl : dropB B1 d = Bl at e1 hq1 he1 ⊢
    generalize hHl : upd H1 d (.frz od (.dK kvs)) = Hl at e1 ⊢
    have hdl : Hl d = some (.frz od (.dK kvs)) := by rw [← hHl]; exact upd_same
    clear hHl hBl
    intro B2 H2 l2 Q q
    have hd2 := l2.k d _ (by simp) hdl
    have kl : kvs.length = ns.length := by have := congrArg List.length z1; rwa [List.length_map, List.length_map] at this
    refine ⟨.ref d, hi, d, od, kvs, rfl, hd2, fun D hD => ?_⟩
    have hDb := none_of l2.h hD
    have hsl : 1000 < sizeLine := by rw [sizeLine_eq]; decide
    refine lc_it (walk_items (d := d) (o := od) (kvs := kvs)) (fun i Hi => ∃ Bi ws, Le [] B2 H2 Bi Hi ∧ Bi D = none ∧ Hi D = some (.lst ws) ∧ DqAll K Bi ws ((ns.take i).map G)) ⟨B2, [], Le.made l2.h hD, hDb, upd_same, .nil⟩ (fun i Hi _ p => ?_) (fun i y Hi Hi' hlt p yy => ?_) (fun Hi p => ?_)
    · obtain ⟨Bi, ws, le, _⟩ := p
      exact le.k d _ (by simp) hd2
    · obtain ⟨T, x1, x2, rfl, hT, rfl, f1, f2⟩ := yy
      obtain ⟨Bi, ws, le, hbi, hh, hqw⟩ := p
      have hlt' : i < ns.length := by omega
      have en : ns[i]? = some ns[i] := List.getElem?_eq_getElem hlt'
      have hnm : ns[i] ∈ ns := List.getElem_mem hlt'
      obtain ⟨kk, yv, ekv⟩ : ∃ kk yv, kvs[i]? = some (kk, yv) := ⟨_, _, List.getElem?_eq_getElem (by omega)⟩
      have ekk : kk = .inl ns[i] := by
        have := congrArg (fun l => l[i]?) z1
        simp only [List.getElem?_map, ekv, en, Option.map_some] at this
        exact Option.some.inj this
      dsimp only at f1 f2
      rw [ekv] at f1 f2
      subst ekk
      cases f1
      cases f2
      obtain ⟨dd, ed, hy⟩ := (hq1.mono (l2.trans le).b).get (i := i) (v := yv) (by rw [List.getElem?_map, ekv]; rfl)
      rw [List.getElem?_map, en] at ed
      cases ed
      have htk := take_one en
      have ln := Le.new (M := []) (o := .tup [.int ns[i], yv]) le.h hT
      have hTD : T ≠ D := fun z => by rw [z, hh] at hT; cases hT
      have hh2 : (upd Hi T (.tup [.int ns[i], yv])) D = some (.lst ws) := by rw [upd_ne (Ne.symm hTD)]; exact hh
      have hb2 : (upd Bi T (.tup [.int ns[i], yv])) D = none := by rw [upd_ne (Ne.symm hTD)]; exact hbi
      refine ⟨T, [.int ns[i], yv], rfl, .inl (.inl upd_same), rfl, .int ns[i], [yv], rfl, yv, [], rfl, rfl, hw _ _, yes_i ?_⟩
      rw [if_pos rfl]
      refine he1 ns[i] hnm yv _ _ ((l2.trans le).trans ln).b ln.h (hy.mono ln.b) _ _ (Le.refl ln.h) _ fun u B3 H3 l3 hu => ?_
      have h3 := l3.k D _ (by simp) hh2
      have b3 := l3.own hh2 hb2
      have q3 := (hqw.mono ln.b).mono l3.b
      have hwl : ws.length ≤ 1000 := by
        rw [hqw.length, List.length_map, List.length_take]
        omega
      refine ⟨ws, h3, by omega, B3, ws ++ [u], ?_, b3, upd_same, ?_⟩
      · exact (((le.trans ln).any.trans l3.any).trans (Le.put (M := [D]) l3.h b3 (by simp))).local hD
      · rw [htk, List.map_append]
        exact q3.append (.cons hu .nil)
    · obtain ⟨Bi, ws, le, hbi, hh, hqw⟩ := p
      rw [kl, List.take_length] at hqw
      have lg := le.give hD hbi hh
      exact q (.ref D) _ Hi lg (.lst upd_same (hqw.mono (Evl.Ex.new hbi)))
theorem ev_din {ty td : TE} {k : Int} (hk : Ev K ty σ B H (.int k)) (hd : Ev K td σ B H (effM ns F)) : Ev K (tDIn ty td) σ B H (.bool (decide (k ∈ ns))) := fun B1 H1 l Q q =>
  hk B1 H1 l _ fun w B2 H2 l2 hw => by
    cases hw
    refine hd B2 H2 (l.trans l2) _ fun v B3 H3 l3 hv => ?_
    unfold effM at hv
    generalize hE : ns.map (fun n => (PyData.int n, F n)) = L at hv
    cases hv with
    | dct h hq =>
      rename_i a kvs ds
      refine ⟨a, valV kvs (.inl k), rfl, DGet.k (k := .inl k) (l3.h _ _ h), ?_⟩
      have z := zip_val (K := K) (H := B3) k hq hE.symm
      by_cases w : k ∈ ns
      · rw [if_pos w] at z
        obtain ⟨y, e1, _⟩ := z
        rw [e1, decide_eq_true w] at *
        exact q _ B3 H3 (l2.trans l3) (.bl true)
      · rw [if_neg w] at z
        rw [z]
        rw [decide_eq_false w] at q
        exact q _ B3 H3 (l2.trans l3) (.bl false)
/-- [e(k) for k in d] -/
theorem ev_lcKeysD {te : TE} {i jk : Nat} {v : V} {vs : List Nat} (G : Int → PyData) (hi : σ[i]? = some (some v)) (hv : Dq K B v (effM ns F)) (hln : ns.length ≤ 1000)
    (he : ∀ n ∈ ns, ∀ d B0 B' H', v = .ref d → (∃ kvs, B0 d = some (.dK kvs)) → Ex B B0 → Ex (dropB B0 d) B' → Ex B' H' → Ev K te ((wipe σ vs).set jk (some (.int n))) B' H' (G n))
    (e : Ex B H) (hw : ∀ y, wipe ((wipe σ vs).set jk (some y)) vs = wipe σ vs := by intro _; rfl) :
    Ev K (tLockE (tLc (iKeys (tVar i)) (gName jk) tYes te vs)) σ B H (.list (ns.map G)) := by
  unfold effM at hv
  generalize hE : ns.map (fun n => (PyData.int n, F n)) = L at hv
  cases hv with
  | dct hd hq =>
    rename_i d kvs ds
    obtain ⟨z1, z2⟩ := zip_parts (by have := hq.length; rwa [List.length_map] at this) hE.symm
    have z := ev_lcKeys (K := K) (te := te) (tt := tYes) (jk := jk) (vs := vs) (fun _ => true) G hi (e d _ hd) z1 hln (fun od B1 H1 l B2 H2 l2 n hn => et_yes) (fun od B1 H1 l B2 H2 l2 n hn _ => he n hn d B1 B2 H2 rfl ⟨_, l.b _ _ hd⟩ l.b l2.b l2.h) hw
    rw [show (ns.filter fun _ => true) = ns from List.filter_eq_self.mpr fun _ _ => rfl] at z
    exact z
/-- [k for k in d if f(d[k])] -/
theorem ev_lcGetK {tt : TT} {i jk : Nat} {v : V} {vs : List Nat} (f : Int → Bool) (hi : σ[i]? = some (some v)) (hv : Dq K B v (effM ns F)) (hoff : OffOk K F) (e : Ex B H) (hln : ns.length ≤ 1000)
    (ht : ∀ n ∈ ns, ∀ B' H', Ev K (tDGet (tVar i) (tVar jk)) ((wipe σ vs).set jk (some (.int n))) B' H' (F n) → EvT tt ((wipe σ vs).set jk (some (.int n))) B' H' (f n))
    (hs : ∀ y, ((wipe σ vs).set jk (some y))[i]? = some (some v) := by intro _; rfl)
    (hk : ∀ y, ((wipe σ vs).set jk (some y))[jk]? = some (some y) := by intro _; rfl)
    (hw : ∀ y, wipe ((wipe σ vs).set jk (some y)) vs = wipe σ vs := by intro _; rfl) :
    Ev K (tLockE (tLc (iKeys (tVar i)) (gName jk) tt (tVar jk) vs)) σ B H (.list ((ns.filter f).map PyData.int)) := by
  unfold effM at hv
  generalize hE : ns.map (fun n => (PyData.int n, F n)) = L at hv
  cases hv with
  | dct hd hq =>
    rename_i d kvs ds
    obtain ⟨z1, z2⟩ := zip_parts (by have := hq.length; rwa [List.length_map] at this) hE.symm
    subst z2
    refine ev_lcKeys (K := K) (te := tVar jk) (tt := tt) (jk := jk) (vs := vs) f PyData.int hi (e d _ hd) z1 hln (fun od B1 H1 l B2 H2 l2 n hn => ?_) (fun od B1 H1 l B2 H2 l2 n hn _ => ev_var (hk _) (.int n)) hw
    refine ht n hn B2 H2 fun B3 H3 l3 Q q => ?_
    have hdl : H3 d = some (.frz od (.dK kvs)) := l3.k d _ (by simp) (l2.k d _ (by simp) upd_same)
    have hq1 := (hoff.all (l.b _ _ hd) (hq.mono l.b)).mono l2.b
    have zz := zip_val (K := K) (H := B2) n hq1 hE.symm
    rw [if_pos hn] at zz
    obtain ⟨y, e3, e4⟩ := zz
    exact ⟨.ref d, hs _, .int n, hk _, d, y, rfl, .inl ⟨kvs, .inl n, .inr ⟨od, hdl⟩, rfl, e3.symm⟩, q y B3 H3 (Le.refl l3.h) (e4.mono l3.b)⟩
end
end MA

set_option maxRecDepth 100000
set_option maxHeartbeats 2000000
namespace K34
open PySem PySem.Spec PyProof.Rows L2 MA
/-! effects: dicts whose keys stand in any order -/
abbrev effT (ns : List Int) (m : Int → List Int) : PyData := effM ns fun n => .tuple ((m n).map PyData.int)
structure EffV (ns : List Int) (m : Int → List Int) : Prop where
  nd : ns.Nodup
  one : 1 ≤ ns.length
  len : ns.length ≤ 60
  i60 : ∀ n ∈ ns, 0 ≤ n ∧ n < 60
  perm : (ns.flatMap m).Perm ns
theorem rc_sortedDIg {K : PySem.W.Frag} {ns zs : List Int} {F : Int → PyData} (hn : ns.Nodup) (h1 : zs.Pairwise (· < ·)) (hm : ∀ k, k ∈ ns ↔ k ∈ zs) (h2 : ns.length < 64) : RC K rSortedDI [effM ns F] (.list (zs.map PyData.int)) := fun B H vs e hvs Q q => by
  obtain ⟨v, rfl, hv⟩ := dq1 hvs
  obtain ⟨d, kvs, rfl, hd, hks⟩ := dict_at' hv
  refine ⟨d, kvs, ns, rfl, .inl (e _ _ hd), hks, h2, fun ys p pm sr hp => ?_⟩
  have ey : ys = zs := asc_eq (asc_of_sorted sr (pm.nodup_iff.mpr hn)) h1 fun k => pm.mem_iff.trans (hm k)
  subst ey
  exact q (.ref p) _ _ (Le.new e hp) (.lst upd_same (dqInts _))
where
  dict_at' {v : V} {ns : List Int} {F : Int → PyData} {B : Hp} (h : Dq K B v (effM ns F)) : ∃ d kvs, v = .ref d ∧ B d = some (.dK kvs) ∧ kvs.map (·.1) = ns.map Sum.inl := by
    unfold effM at h
    generalize hE : ns.map (fun n => (PyData.int n, F n)) = L at h
    cases h with
    | dct hd hq =>
      rename_i d kvs ds
      obtain ⟨z1, z2⟩ := zip_parts (by have := hq.length; rwa [List.length_map] at this) hE.symm
      exact ⟨d, kvs, rfl, hd, z1⟩
section
variable {P : Program} {w : World} {K : PySem.W.Frag} {mg : PySem.Str → Option Value} {base : Heap}
abbrev IsES (K : PySem.W.Frag) : Sp := fun vs H Q _ => ∃ (B : Hp) (v : V) (ns : List Int) (m : Int → List Int), vs = [v] ∧ Ex B H ∧ Dq K B v (effT ns m) ∧ EffV ns m ∧ ∀ B' H', Le [] B H B' H' → Q (.bl true) H'
theorem ok_is_effect (D : Df K mg "is_effect" s_is_effect ["value"]) (C_is_item : Cl P w K mg base CX0 2 "is_item" ["value"] (Pf1 K (fun _ => True) fun d => .bool (isItemD d)))
    (z_isinstance : mg "isinstance" = none) (z_dict : mg "dict" = none) (z_len : mg "len" = none) (z_tuple : mg "tuple" = none) (z_all : mg "all" = none) (z_list : mg "list" = none) (z_sorted : mg "sorted" = none) {t60 : Tok} (g_MOST_ITEMS : mg "MOST_ITEMS" = some (.int 60 t60)) :
    Cl P w K mg base CX0 3 "is_effect" ["value"] (IsES K) :=
  Cl.of D sc_is_effect (fun vs H Q E h => by obtain ⟨_, _, _, _, rfl, _⟩ := h; rfl) fun f cdv A outer s H vs Q E hr h => by
    obtain ⟨B, v0, ns, m, rfl, e, h0, V0, q⟩ := h
    have hu := hr.units0
    have hu1 := hu_of hr
    have hu64 : (cxOf CX0 P w K mg base N_is_effect "is_effect" (defScope s_is_effect) f cdv A outer s H E).nox.A.units + 64 < cLine := hr.units
    refine ⟨_, (pss_cons (ps_if ((pw_or (pt_not (pt_val (pe_callB call_isi (by rfl) z_isinstance (by decide +kernel) (pa_cons (pv 0) (pa_cons (pe_bltn (v := .ty "dict") (by rfl) z_dict (by decide +kernel) rfl) pa_nil))))) (pw_or1 (pt_not (pt_chain op_le op_le pe_int (pe_callB cr_lenR (by rfl) z_len PySem.boot_len (pa_cons (pv 0) pa_nil)) (pe_glob (v := .int (60)) (by rfl) g_MOST_ITEMS ⟨_, rfl⟩)))))).pt (pss_one (ps_ret pe_bl)) pss_nil) (pss_cons (ps_set (i := 1) sc_is_effect.nd rfl (.inl rfl) (pe_lst pa_nil)) (pss_cons (ps_lock (ps_for PassesOwn.never rfl (pi_values (pv 0)) (pg_name (i := 2) sc_is_effect.nd rfl (.inl rfl)) (pss_cons (ps_if (pt_not (pt_val (pe_callB call_isi (by rfl) z_isinstance (by decide +kernel) (pa_cons (pv 2) (pa_cons (pe_bltn (v := .ty "tuple") (by rfl) z_tuple (by decide +kernel) rfl) pa_nil))))) (pss_one (ps_ret pe_bl)) pss_nil) (pss_one (ps_expr (pe_bm PySem.F.plainAttrs_list PySem.F.slot_list_extend PySem.F.type_list_extend mt_extendT (pv 1) (pa_cons (pv 2) pa_nil))))))) (pss_cons (ps_if (pt_not (pt_val (pe_callB (cr_all rfl) (by rfl) z_all (by decide +kernel) (pa_cons (pe_lc (own := [("item", 3)]) (tt := tYes) (te := (tCall _ [] E0 (tCons (tVar 3) tNil))) rfl sc_is_effect.nd (pi_list (pe_op op_addA (pe_callTy (call_listD rfl) (by rfl) z_list (by decide +kernel) (pa_cons (pv 0) pa_nil)) (pv 1))) (blkOk_by (N := N_is_effect) (sc := defScope s_is_effect) (by decide +kernel)) (fun _ _ _ _ _ => (pg_name (i := 3) sc_is_effect.nd rfl (.inl rfl))) (fun _ _ _ _ _ => pts_nil) (fun _ _ _ _ _ => (pe_callC C_is_item (hr.mono (by decide)) (by rfl) pass0 (pa_cons (pv 3) pa_nil)))) pa_nil)))) (pss_one (ps_ret pe_bl)) pss_nil) (pss_one (ps_ret (pe_cmpR (op_eqD hu64) (pe_callB cr_sortedI (by rfl) z_sorted (by decide +kernel) (pa_cons (pv 1) pa_nil)) (pe_callB (call_sortedDI rfl) (by rfl) z_sorted (by decide +kernel) (pa_cons (pv 0) pa_nil)) (nomark _)))))))), ?_⟩
    have x0 : ∀ {B' H'}, Le [] B H B' H' → Ev K (tVar 0) (L2.start N_is_effect [v0]) B' H' (effT ns m) := fun l => ev_var rfl (h0.mono l.b)
    have isd : isN "dict" (effT ns m) = true := by simp [isN, isNS, tyN, effM]
    have t1 := et_not (et_B (ev_isi (T := "dict") (x0 (Le.refl e)) (by decide)))
    rw [isd] at t1
    have len : Ev K (tCB rLenR (tCons (tVar 0) tNil)) (L2.start N_is_effect [v0]) B H (.int ((ns.length : Nat) : Int)) := ev_lenDict (x0 (Le.refl e))
    refine q_when (k := false || false) (et_or t1 fun _ => et_not (k := true) (by
      have z := et_chain (K := K) (k := true) (j := true) (r := rI0 fun i j => .bl (decide (i ≤ j))) (r' := rI0 fun i j => .bl (decide (i ≤ j))) (ev_c (.int 1)) len (fun _ => ev_c (.int 60)) (by
        have c := rv_cmp (K := K) (g := fun i j => decide (i ≤ j)) (i := 1) (j := ((ns.length : Nat) : Int))
        rw [decide_eq_true (by have := V0.one; omega)] at c
        exact c) fun _ => by
        have c := rv_cmp (K := K) (g := fun i j => decide (i ≤ j)) (i := ((ns.length : Nat) : Int)) (j := 60)
        rw [decide_eq_true (by have := V0.len; omega)] at c
        exact c
      exact z)) e (fun h => by cases h) fun _ B1 H1 l1 => ?_
    -- inside
    refine ⟨Nat.zero_le _, fun p hp => ?_⟩
    have hpB := none_of l1.h hp
    have lp : Le [p] B1 H1 B1 (upd H1 p (.lst [])) := Le.made l1.h hp
    have hp0 : H p = none := l1.back hp
    have fl : (ns.flatMap m).length = ns.length := V0.perm.length_eq
    have n60 := V0.len
    refine q_forV (K := K) (M := [p]) (i := 0) (j := 2) (ns := ns) (F := fun n => .tuple ((m n).map PyData.int)) rfl (h0.mono l1.b) (off_tup m) lp.h (fun a ha => by rw [List.mem_singleton.mp ha]; exact hpB)
      (fun k σ' B' H' => ∃ o2, σ' = [some v0, some (.ref p), o2, none] ∧ B' p = none ∧ H' p = some (.lst (((ns.take k).flatMap m).map V.int))) fun d Bl Hl _ hdM hBl eBl hHl => ?_
    have hpd : p ≠ d := fun z => hdM (by rw [z]; exact List.mem_singleton.mpr rfl)
    refine ⟨⟨none, rfl, ?_, ?_⟩, ?_, ?_⟩
    · rw [hBl]
      show (if p = d then none else B1 p) = none
      rw [if_neg hpd]
      exact hpB
    · rw [hHl p hpd]
      exact upd_same
    · rintro k n x σ' B' H' N D' hk hx l ⟨o2, rfl, bp, hh⟩ rfl hN
      have tk : (ns.take (k + 1)).flatMap m = (ns.take k).flatMap m ++ m n := by
        rw [List.take_add_one, hk, List.flatMap_append]
        congr 1
        exact List.append_nil _
      have ln : ((ns.take k).flatMap m).length + (m n).length ≤ 60 := by
        have e2 : (ns.take (k + 1)).flatMap m ++ (ns.drop (k + 1)).flatMap m = ns.flatMap m := by rw [← List.flatMap_append, List.take_append_drop]
        have := congrArg List.length e2
        rw [List.length_append, tk, List.length_append] at this
        omega
      have t2 := et_not (et_B (ev_isi (K := K) (T := "tuple") (ev_var (K := K) (i := 2) (σ := [some v0, some (.ref p), some x, none]) (B := B') (H := H') rfl hx) (by decide)))
      have ist : isN "tuple" (PyData.tuple ((m n).map PyData.int)) = true := by simp [isN, isNS, tyN]
      rw [ist] at t2
      refine q_when (k := false) t2 l.h (fun h => by cases h) fun _ B2 H2 l2 => ?_
      have hh2 := l2.k p _ (by simp) hh
      have bp2 := l2.own hh bp
      cases hx.mono l2.b with
      | tup hs hq =>
        rename_i b us
        cases ofInts hq
        have hsl : 100000 < sizeLine := by rw [sizeLine_eq]; decide
        refine ⟨.ref p, rfl, .inl ⟨rfl, _, .inl (.inl hh2)⟩, .ref b, rfl, p, b, _, _, rfl, rfl, hh2, Evl.ex_t l2.h hs, by rw [List.length_map, List.length_map]; omega, ?_⟩
        refine hN _ B2 _ (l2.any.trans (Le.put l2.h bp2 (by simp))) ⟨_, rfl, bp2, ?_⟩
        rw [upd_same, tk, List.map_append]
    · rintro σ' B' H' B2 H2 l ⟨o2, rfl, bp, hh⟩ l2 _ hsame
      have b2 : B2 p = none := by rw [(hsame p hpd).1]; exact bp
      have h2 : H2 p = some (.lst ((ns.flatMap m).map V.int)) := by rw [(hsame p hpd).2, hh, List.take_length]
      have lg : Le [] B H (upd B2 p (.lst ((ns.flatMap m).map V.int))) H2 := ((l1.any.trans (lp.trans l2)).give hp0 b2 h2).local hp0
      have hp' : Dq K (upd B2 p (.lst ((ns.flatMap m).map V.int))) (.ref p) (.list ((ns.flatMap m).map PyData.int)) := .lst upd_same (dqInts _)
      have h0' := h0.mono lg.b
      generalize upd B2 p (.lst ((ns.flatMap m).map V.int)) = B3 at lg hp' h0'
      have lst := ev_op (K := K) (ev_cb (ea_cons (ev_var (K := K) (i := 0) (σ := [some v0, some (.ref p), o2, none]) (B := B3) (H := H2) rfl h0') ea_nil) rc_listDM) (ev_var (i := 1) rfl hp') (rv_addL (size_ok (by rw [List.length_map, List.length_map]; show _ ≤ 100000; omega)))
      rw [← List.map_append] at lst
      have comp := ev_compL (K := K) (j := 3) (vs := [3]) (tt := tYes) (te := tCall (Pf1 K (fun _ => True) fun d => .bool (isItemD d)) [] E0 (tCons (tVar 3) tNil)) (fun _ => true) (fun d => .bool (isItemD d)) lst (by rw [List.length_map, List.length_append]; omega) (fun d v B1 H1 l hd hv => et_yes) (fun d v B1 H1 l hd hv _ => ev_call1 (ev_var rfl hv) trivial) (fun _ => rfl)
      rw [filter_true] at comp
      have al := ev_cb (rr := rAll K) (ea_cons comp ea_nil) (rc_allD fun d => isItemD d)
      have allI : ((ns ++ ns.flatMap m).map PyData.int).all isItemD = true := by
        rw [List.all_eq_true]
        intro d hd
        obtain ⟨k, hk, rfl⟩ := List.mem_map.mp hd
        have hk' : k ∈ ns := (List.mem_append.mp hk).elim id fun h => V0.perm.mem_iff.mp h
        obtain ⟨a1, a2⟩ := V0.i60 k hk'
        simp [isItemD, a1, a2]
      rw [allI] at al
      refine q_when (k := false) (et_not (k := true) (et_B al)) lg.h (fun h => by cases h) fun _ B4 H4 l4 => ?_
      have asc := below_asc fun k => decide (k ∈ ns)
      have mem : ∀ k, k ∈ ns ↔ k ∈ below fun k => decide (k ∈ ns) := fun k => by
        rw [mem_below]
        constructor
        · intro h; exact ⟨(V0.i60 k h).1, (V0.i60 k h).2, decide_eq_true h⟩
        · intro h; exact of_decide_eq_true h.2.2
      have a1 := ev_cb (K := K) (rr := rSortedI K) (ea_cons (ev_var (K := K) (i := 1) (σ := [some v0, some (.ref p), o2, none]) (B := B4) (H := H4) rfl (hp'.mono l4.b)) ea_nil) (rc_sorted (V0.perm.nodup_iff.mpr V0.nd) asc fun k => V0.perm.mem_iff.trans (mem k))
      have a2 := ev_cb (K := K) (rr := rSortedDI) (ea_cons (ev_var (K := K) (i := 0) (σ := [some v0, some (.ref p), o2, none]) (B := B4) (H := H4) rfl (h0'.mono l4.b)) ea_nil) (rc_sortedDIg V0.nd asc mem (by omega))
      have z := ev_op (K := K) a1 a2 rv_eqLD
      rw [decide_eq_true rfl] at z
      refine s_ret (K := K) (d := .bool true) z l4.h fun v B5 H5 l5 hv => ?_
      cases hv
      exact q B5 H5 ((lg.trans l4).trans l5)
end
end K34

set_option maxRecDepth 100000
set_option maxHeartbeats 2000000
namespace K34
open PySem PySem.Spec PyProof.Rows L2 MA
def possB (ns : List Int) (m : Int → List Int) : Bool := (ns.any fun n => decide (m n = [])) || ns.all fun n => decide (m n = [n])
def hasB (cs : List PyData) (ns : List Int) (m : Int → List Int) : Bool := ((namedI cs).all fun k => decide (k ∈ ns)) && ns.all fun n => decide ((if n ∈ namedI cs then scrMap cs n else [n]) = m n)
section
variable {P : Program} {w : World} {K : PySem.W.Frag} {mg : PySem.Str → Option Value} {base : Heap}
theorem rc_anyD {ns : List Int} (p : Int → Bool) : RC K (rAny K) [.list (ns.map fun n => .bool (p n))] (.bool (ns.any p)) := by
  have h := rc_any (K := K) (bs := ns.map p)
  rw [List.map_map, List.any_map] at h
  exact h
theorem rc_allN {ns : List Int} (p : Int → Bool) : RC K (rAll K) [.list (ns.map fun n => .bool (p n))] (.bool (ns.all p)) := by
  have h := rc_all (K := K) (bs := ns.map p)
  rw [List.map_map, List.all_map] at h
  exact h
theorem ev_isE {σ : L2.St} {B H : Hp} {i : Nat} {v : V} {ns : List Int} {m : Int → List Int} (hi : σ[i]? = some (some v)) (hv : Dq K B v (effT ns m)) (V0 : EffV ns m) : Ev K (tCall (IsES K) [] E0 (tCons (tVar i) tNil)) σ B H (.bool true) := fun B1 H1 l Q q =>
  ⟨v, hi, B1, v, ns, m, rfl, l.h, hv.mono l.b, V0, fun B' H' l' => q _ B' H' l' (.bl _)⟩
abbrev ReqES (K : PySem.W.Frag) : Sp := fun vs H Q _ => ∃ (B : Hp) (v : V) (ns : List Int) (m : Int → List Int), vs = [v] ∧ Ex B H ∧ Dq K B v (effT ns m) ∧ EffV ns m ∧ ∀ B' H', Le [] B H B' H' → Q .non H'
theorem ev_reqE {σ : L2.St} {B H : Hp} {i : Nat} {v : V} {ns : List Int} {m : Int → List Int} (hi : σ[i]? = some (some v)) (hv : Dq K B v (effT ns m)) (V0 : EffV ns m) : Ev K (tCall (ReqES K) [] E0 (tCons (tVar i) tNil)) σ B H .none := fun B1 H1 l Q q =>
  ⟨v, hi, B1, v, ns, m, rfl, l.h, hv.mono l.b, V0, fun B' H' l' => q _ B' H' l' .non⟩
theorem ok_require_effect (D : Df K mg "require_effect" s_require_effect ["value"]) (C_is_effect : Cl P w K mg base CX0 3 "is_effect" ["value"] (IsES K)) : Cl P w K mg base CX0 4 "require_effect" ["value"] (ReqES K) :=
  Cl.of D sc_require_effect (fun vs H Q E h => by obtain ⟨_, _, _, _, rfl, _⟩ := h; rfl) fun f cdv A outer s H vs Q E hr h => by
    obtain ⟨B, v0, ns, m, rfl, e, h0, V0, q⟩ := h
    refine ⟨_, (pss_one (ps_if (pt_not (pt_val (pe_callC C_is_effect (hr.mono (by decide)) (by rfl) pass0 (pa_cons (pv 0) pa_nil)))) (pss_one (ps_never)) pss_nil)), ?_⟩
    exact s_when (k := false) (et_not (k := true) (et_B (ev_isE (i := 0) rfl h0 V0))) e (fun h => by cases h) fun _ B1 H1 l1 => q B1 H1 l1
abbrev PosS (K : PySem.W.Frag) : Sp := fun vs H Q _ => ∃ (B : Hp) (v : V) (ns : List Int) (m : Int → List Int), vs = [v] ∧ Ex B H ∧ Dq K B v (effT ns m) ∧ EffV ns m ∧ ∀ B' H', Le [] B H B' H' → Q (.bl (possB ns m)) H'
theorem ev_pos {σ : L2.St} {B H : Hp} {i : Nat} {v : V} {ns : List Int} {m : Int → List Int} (hi : σ[i]? = some (some v)) (hv : Dq K B v (effT ns m)) (V0 : EffV ns m) : Ev K (tCall (PosS K) [] E0 (tCons (tVar i) tNil)) σ B H (.bool (possB ns m)) := fun B1 H1 l Q q =>
  ⟨v, hi, B1, v, ns, m, rfl, l.h, hv.mono l.b, V0, fun B' H' l' => q _ B' H' l' (.bl _)⟩
theorem ok_has_possible_blocks (D : Df K mg "has_possible_blocks" s_has_possible_blocks ["effect"]) (z_any : mg "any" = none) (z_all : mg "all" = none) : Cl P w K mg base CX0 1 "has_possible_blocks" ["effect"] (PosS K) :=
  Cl.of D sc_has_possible_blocks (fun vs H Q E h => by obtain ⟨_, _, _, _, rfl, _⟩ := h; rfl) fun f cdv A outer s H vs Q E hr h => by
    obtain ⟨B, v0, ns, m, rfl, e, h0, V0, q⟩ := h
    have hu := hr.units0
    have hu1 := hu_of hr
    have hu64 : (cxOf CX0 P w K mg base N_has_possible_blocks "has_possible_blocks" (defScope s_has_possible_blocks) f cdv A outer s H E).nox.A.units + 64 < cLine := hr.units
    refine ⟨_, (pss_cons (ps_if (pt_val (pe_callB (cr_any rfl) (by rfl) z_any (by decide +kernel) (pa_cons (pe_lock (pe_lc (own := [("block", 1)]) (tt := tYes) (te := (tOp (rEqD K) (tVar 1) (tTup tNil))) rfl sc_has_possible_blocks.nd (pi_values (pv 0)) (blkOk_by (N := N_has_possible_blocks) (sc := defScope s_has_possible_blocks) (by decide +kernel)) (fun _ _ _ _ _ => (pg_name (i := 1) sc_has_possible_blocks.nd rfl (.inl rfl))) (fun _ _ _ _ _ => pts_nil) (fun _ _ _ _ _ => (pe_cmpR (op_eqD hu64) (pv 1) (pe_tup pa_nil) (nomark _))))) pa_nil))) (pss_one (ps_ret pe_bl)) pss_nil) (pss_one (ps_ret (pe_callB (cr_all rfl) (by rfl) z_all (by decide +kernel) (pa_cons (pe_lock (pe_lc (own := [("item", 2), ("block", 1)]) (tt := tYes) (te := (tOp (rEqD K) (tVar 1) (tTup (tCons (tVar 2) tNil)))) (g := gTup K 2 (gCons (gName 2) (gCons (gName 1) gNil))) rfl sc_has_possible_blocks.nd (pi_items (pv 0)) (blkOk_by (N := N_has_possible_blocks) (sc := defScope s_has_possible_blocks) (by decide +kernel)) (fun _ _ _ _ _ => (pg_tup rfl (pgs_cons (pg_name (i := 2) sc_has_possible_blocks.nd rfl (.inl rfl)) (pgs_cons (pg_name (i := 1) sc_has_possible_blocks.nd rfl (.inl rfl)) pgs_nil)))) (fun _ _ _ _ _ => pts_nil) (fun _ _ _ _ _ => (pe_cmpR (op_eqD hu64) (pv 1) (pe_tup (pa_cons (pv 2) pa_nil)) (nomark _))))) pa_nil))))), ?_⟩
    have n60 := V0.len
    have c1 := ev_lcValsG (K := K) (σ := L2.start N_has_possible_blocks [v0]) (B := B) (H := H) (i := 0) (jk := 1) (vs := [1]) (te := tOp (rEqD K) (tVar 1) (tTup tNil)) (F := fun n => .tuple ((m n).map PyData.int)) (fun n => .bool (decide (m n = []))) rfl h0 (off_tup m) (by omega) (fun n hn x B' H' e' hx => ev_op (ev_var rfl hx) (ev_tup ea_nil (size_ok (by show 0 ≤ 100000; decide))) (rv_eqTD (bs := []))) e
    have a1 := ev_cb (rr := rAny K) (ea_cons c1 ea_nil) (rc_anyD fun n => decide (m n = []))
    refine q_when (k := ns.any fun n => decide (m n = [])) (et_B a1) e (fun hk B1 H1 l1 => ?_) fun hk B1 H1 l1 => ?_
    · refine s_ret (K := K) (d := .bool true) (ev_c (.bl true)) l1.h fun v B2 H2 l2 hv => ?_
      cases hv
      have : possB ns m = true := by unfold possB; rw [hk]; rfl
      rw [← this]
      exact q B2 H2 (l1.trans l2)
    · have c2 := ev_lcItemsG (K := K) (σ := L2.start N_has_possible_blocks [v0]) (B := B1) (H := H1) (i := 0) (js := 2) (jb := 1) (vs := [2, 1]) (te := tOp (rEqD K) (tVar 1) (tTup (tCons (tVar 2) tNil))) (F := fun n => .tuple ((m n).map PyData.int)) (fun n => .bool (decide (m n = [n]))) rfl (h0.mono l1.b) (off_tup m) (by omega) (fun n hn d x B0 B' H' _ _ _ _ e' hx => ev_op (ev_var rfl hx) (ev_tup (ea_cons (ev_var rfl (.int n)) ea_nil) (size_ok (by show 1 ≤ 100000; decide))) (rv_eqTD (bs := [n]))) l1.h
      have a2 := ev_cb (rr := rAll K) (ea_cons c2 ea_nil) (rc_allN fun n => decide (m n = [n]))
      refine s_ret (K := K) a2 l1.h fun v B2 H2 l2 hv => ?_
      cases hv
      have : possB ns m = ns.all fun n => decide (m n = [n]) := by unfold possB; rw [hk, Bool.false_or]
      rw [← this]
      exact q B2 H2 (l1.trans l2)
theorem ok_is_possible (D : Df K mg "is_possible" s_is_possible ["effect"]) (C_require_effect : Cl P w K mg base CX0 4 "require_effect" ["value"] (ReqES K)) (C_has_possible_blocks : Cl P w K mg base CX0 1 "has_possible_blocks" ["effect"] (PosS K)) : Cl P w K mg base CX0 5 "is_possible" ["effect"] (PosS K) :=
  Cl.of D sc_is_possible (fun vs H Q E h => by obtain ⟨_, _, _, _, rfl, _⟩ := h; rfl) fun f cdv A outer s H vs Q E hr h => by
    obtain ⟨B, v0, ns, m, rfl, e, h0, V0, q⟩ := h
    refine ⟨_, (pss_cons (ps_expr (pe_callC C_require_effect (hr.mono (by decide)) (by rfl) pass0 (pa_cons (pv 0) pa_nil))) (pss_one (ps_ret (pe_callC C_has_possible_blocks (hr.mono (by decide)) (by rfl) pass0 (pa_cons (pv 0) pa_nil))))), ?_⟩
    refine q_drop (ev_reqE (i := 0) rfl h0 V0) e fun B1 H1 l1 => ?_
    refine s_ret (K := K) (ev_pos (i := 0) rfl (h0.mono l1.b) V0) l1.h fun v B2 H2 l2 hv => ?_
    cases hv
    exact q B2 H2 (l1.trans l2)
end
end K34

set_option maxRecDepth 100000
set_option maxHeartbeats 2000000
namespace K34
open PySem PySem.Spec PyProof.Rows L2 MA
section
variable {P : Program} {w : World} {K : PySem.W.Frag} {mg : PySem.Str → Option Value} {base : Heap}
abbrev HasS (K : PySem.W.Frag) : Sp := fun vs H Q _ => ∃ (B : Hp) (v0 v1 : V) (cs : List PyData) (ns : List Int) (m : Int → List Int), vs = [v0, v1] ∧ Ex B H ∧ Dq K B v0 (.tuple cs) ∧ isScriptD (.tuple cs) = true ∧ Dq K B v1 (effT ns m) ∧ EffV ns m ∧ ∀ B' H', Le [] B H B' H' → Q (.bl (hasB cs ns m)) H'
theorem ev_has {σ : L2.St} {B H : Hp} {i j : Nat} {v0 v1 : V} {cs : List PyData} {ns : List Int} {m : Int → List Int} (hi : σ[i]? = some (some v0)) (h0 : Dq K B v0 (.tuple cs)) (hsc : isScriptD (.tuple cs) = true) (hj : σ[j]? = some (some v1)) (h1 : Dq K B v1 (effT ns m)) (V0 : EffV ns m) : Ev K (tCall (HasS K) [] E0 (tCons (tVar i) (tCons (tVar j) tNil))) σ B H (.bool (hasB cs ns m)) := fun B1 H1 l Q q =>
  ⟨v0, hi, v1, hj, B1, v0, v1, cs, ns, m, rfl, l.h, h0.mono l.b, hsc, h1.mono l.b, V0, fun B' H' l' => q _ B' H' l' (.bl _)⟩
theorem ok_has_effect (D : Df K mg "has_effect" s_has_effect ["script", "effect"]) (C_require_script : Cl P w K mg base CX0 5 "require_script" ["value"] (Pf1 K (fun d => isScriptD d = true) fun _ => .none)) (C_require_effect : Cl P w K mg base CX0 4 "require_effect" ["value"] (ReqES K))
    (C_effect_of : Cl P w K mg base CX0 2 "effect_of" ["script"] (Pn1 K (fun d => isScriptD d = true) fun d => effD (tupD d))) (z_all : mg "all" = none) : Cl P w K mg base CX0 6 "has_effect" ["script", "effect"] (HasS K) :=
  Cl.of D sc_has_effect (fun vs H Q E h => by obtain ⟨_, _, _, _, _, _, rfl, _⟩ := h; rfl) fun f cdv A outer s H vs Q E hr h => by
    obtain ⟨B, v0, v1, cs, ns, m, rfl, e, h0, hsc, h1, V0, q⟩ := h
    have hu := hr.units0
    have hu1 := hu_of hr
    have hu64 : (cxOf CX0 P w K mg base N_has_effect "has_effect" (defScope s_has_effect) f cdv A outer s H E).nox.A.units + 64 < cLine := hr.units
    refine ⟨_, (pss_cons (ps_expr (pe_callC C_require_script (hr.mono (by decide)) (by rfl) pass0 (pa_cons (pv 0) pa_nil))) (pss_cons (ps_expr (pe_callC C_require_effect (hr.mono (by decide)) (by rfl) pass0 (pa_cons (pv 1) pa_nil))) (pss_cons (ps_set (i := 2) sc_has_effect.nd rfl (.inr rfl) (pe_callC C_effect_of (hr.mono (by decide)) (by rfl) pass0 (pa_cons (pv 0) pa_nil))) (pss_cons (ps_if (pt_not (pt_val (pe_callB (cr_all rfl) (by rfl) z_all (by decide +kernel) (pa_cons (pe_lock (pe_lc (own := [("item", 3)]) (tt := tYes) (te := (tDIn (tVar 3) (tVar 1))) rfl sc_has_effect.nd (pi_keys (pv 2)) (blkOk_by (N := N_has_effect) (sc := defScope s_has_effect) (by decide +kernel)) (fun _ _ _ _ _ => (pg_name (i := 3) sc_has_effect.nd rfl (.inl rfl))) (fun _ _ _ _ _ => pts_nil) (fun _ _ _ _ _ => (pe_cmp (pc_din hu1 (pv 3) (pv 1)))))) pa_nil)))) (pss_one (ps_ret pe_bl)) pss_nil) (pss_one (ps_ret (pe_callB (cr_all rfl) (by rfl) z_all (by decide +kernel) (pa_cons (pe_lock (pe_lc (own := [("item", 3), ("block", 4)]) (tt := tYes) (te := (tOp (rEqD K) (tDGet2 (tVar 2) (tVar 3) (tTup (tCons (tVar 3) tNil))) (tVar 4))) (g := gTup K 2 (gCons (gName 3) (gCons (gName 4) gNil))) rfl sc_has_effect.nd (pi_items (pv 1)) (blkOk_by (N := N_has_effect) (sc := defScope s_has_effect) (by decide +kernel)) (fun _ _ _ _ _ => (pg_tup rfl (pgs_cons (pg_name (i := 3) sc_has_effect.nd rfl (.inl rfl)) (pgs_cons (pg_name (i := 4) sc_has_effect.nd rfl (.inl rfl)) pgs_nil)))) (fun _ _ _ _ _ => pts_nil) (fun _ _ _ _ _ => (pe_cmpR (op_eqD hu64) (pe_dget2 hu1 (pv 2) (pv 3) (pe_tup (pa_cons (pv 3) pa_nil)) ⟨rfl, rfl, rfl, rfl⟩) (pv 4) (nomark _))))) pa_nil)))))))), ?_⟩
    have n60 := V0.len
    have nl := named_len cs
    refine q_drop (ev_call1 (K := K) (ev_var rfl h0) hsc) e fun B1 H1 l1 => ?_
    refine q_drop (ev_reqE (i := 1) rfl (h1.mono l1.b) V0) l1.h fun B2 H2 l2 => ?_
    have l12 := l1.trans l2
    replace h0 := h0.mono l12.b
    replace h1 := h1.mono l12.b
    refine q_setN (K := K) (evN_call1 (g := fun d => effD (tupD d)) (ev_var rfl h0) hsc) l12.h fun v2 B3 H3 l3 hnw h2 => ?_
    have l13 := l12.trans l3
    have hne : ∀ d, v1 = .ref d → v2 ≠ .ref d := fun d hd h => by
      obtain ⟨a, ea, ha⟩ := hnw
      rw [ea] at h
      cases h
      have hb : ∃ kvs, B2 d = some (.dK kvs) := by
        rw [hd] at h1
        unfold effT effM at h1
        generalize ns.map (fun n => (PyData.int n, PyData.tuple ((m n).map PyData.int))) = L at h1
        cases h1 with
        | dct hd' hq' => exact ⟨_, hd'⟩
      obtain ⟨kvs, hk⟩ := hb
      rw [l12.h _ _ hk] at ha
      cases ha
    replace h1 := h1.mono l3.b
    have h2' : Dq K B3 v2 (effT (namedI cs) (scrMap cs)) := h2
    have c1 := ev_lcKeysD (K := K) (σ := [some v0, some v1, some v2, none, none]) (B := B3) (H := H3) (i := 2) (jk := 3) (vs := [3]) (te := tDIn (tVar 3) (tVar 1)) (F := fun n => .tuple ((scrMap cs n).map PyData.int)) (fun n => .bool (decide (n ∈ ns))) rfl h2' (by omega) (fun n hn d B0 B' H' hd hk b0 b1 e' => by
      obtain ⟨kvs, hk⟩ := hk
      exact ev_din (ev_var rfl (.int n)) (ev_var (i := 1) rfl (((off_tup m).dict hk (fun z => hne d z hd) (h1.mono b0)).mono b1))) l3.h
    have a1 := ev_cb (rr := rAll K) (ea_cons c1 ea_nil) (rc_allN fun n => decide (n ∈ ns))
    refine q_when (k := !(namedI cs).all fun n => decide (n ∈ ns)) (et_not (et_B a1)) l3.h (fun hk B4 H4 l4 => ?_) fun hk B4 H4 l4 => ?_
    · refine s_ret (K := K) (d := .bool false) (ev_c (.bl false)) l4.h fun v B5 H5 l5 hv => ?_
      cases hv
      have : hasB cs ns m = false := by
        unfold hasB
        cases z : (namedI cs).all fun n => decide (n ∈ ns) with
        | false => rfl
        | true => rw [z] at hk; cases hk
      rw [← this]
      exact q B5 H5 ((l13.trans l4).trans l5)
    · have c2 := ev_lcItemsG (K := K) (σ := [some v0, some v1, some v2, none, none]) (B := B4) (H := H4) (i := 1) (js := 3) (jb := 4) (vs := [3, 4]) (te := tOp (rEqD K) (tDGet2 (tVar 2) (tVar 3) (tTup (tCons (tVar 3) tNil))) (tVar 4)) (F := fun n => .tuple ((m n).map PyData.int)) (fun n => .bool (decide ((if n ∈ namedI cs then scrMap cs n else [n]) = m n))) rfl (h1.mono l4.b) (off_tup m) (by omega) (fun n hn d x B0 B' H' hd hk b0 b1 e' hx => by
        obtain ⟨kvs, hk⟩ := hk
        have g := ev_dget2 (K := K) (F := fun n => .tuple ((scrMap cs n).map PyData.int)) (k := n) (dd := .tuple [.int n]) (ns := namedI cs) (σ := [some v0, some v1, some v2, some (.int n), some x]) (B := B') (H := H') (td := tVar 2) (ty := tVar 3) (tx := tTup (tCons (tVar 3) tNil)) (ev_var rfl (((off_tup (scrMap cs)).dict hk (hne d hd) ((h2'.mono l4.b).mono b0)).mono b1)) (ev_var rfl (.int n)) (ev_tup (ea_cons (ev_var rfl (.int n)) ea_nil) (size_ok (by show 1 ≤ 100000; decide)))
        have e1 : (if n ∈ namedI cs then PyData.tuple ((scrMap cs n).map PyData.int) else .tuple [.int n]) = .tuple ((if n ∈ namedI cs then scrMap cs n else [n]).map PyData.int) := by
          by_cases z : n ∈ namedI cs
          · rw [if_pos z, if_pos z]
          · rw [if_neg z, if_neg z]; rfl
        rw [e1] at g
        exact ev_op g (ev_var (i := 4) rfl hx) rv_eqTD) l4.h
      have a2 := ev_cb (rr := rAll K) (ea_cons c2 ea_nil) (rc_allN fun n => decide ((if n ∈ namedI cs then scrMap cs n else [n]) = m n))
      refine s_ret (K := K) a2 l4.h fun v B5 H5 l5 hv => ?_
      cases hv
      have : hasB cs ns m = ns.all fun n => decide ((if n ∈ namedI cs then scrMap cs n else [n]) = m n) := by
        unfold hasB
        cases z : (namedI cs).all fun n => decide (n ∈ ns) with
        | false => rw [z] at hk; cases hk
        | true => rw [Bool.true_and]
      rw [← this]
      exact q B5 H5 ((l13.trans l4).trans l5)
end
end K34

set_option maxRecDepth 100000
set_option maxHeartbeats 2000000
namespace MA
open PySem PySem.Spec PyProof.Rows L2
/-! ## rows = dict([(k, [k]) for k in a list]): a dict of ours whose values are lists of ours -/
/-- the pairs so far: the list D holds tuples of ours, each of a key and a list of ours -/
structure PW (D : Addr) (ns : List Int) (ts rs : List Addr) (B H0 H : Hp) : Prop where
  has : H D = some (.lst (ts.map V.ref))
  tl : ts.length = ns.length
  rl : rs.length = ns.length
  tup : ∀ (t : Nat) (n : Int) (a r : Addr), ns[t]? = some n → ts[t]? = some a → rs[t]? = some r → H a = some (.tup [.int n, .ref r])
  row : ∀ (t : Nat) (n : Int) (r : Addr), ns[t]? = some n → rs[t]? = some r → H r = some (.lst [.int n])
  rnd : rs.Nodup
  outT : D ∉ ts
  outR : D ∉ rs
  sep : ∀ r ∈ rs, r ∉ ts
  bT : ∀ a ∈ ts, B a = none
  bR : ∀ r ∈ rs, B r = none
  fR : ∀ r ∈ rs, H0 r = none
theorem PW.nil {D : Addr} {B H0 H : Hp} (h : H D = some (.lst [])) : PW D [] [] [] B H0 H :=
  ⟨h, rfl, rfl, fun t n a r h => by simp at h, fun t n r h => by simp at h, List.nodup_nil, by simp, by simp, by simp, by simp, by simp, by simp⟩
theorem PW.add {D a r : Addr} {ns : List Int} {ts rs : List Addr} {B H0 H : Hp} {n : Int} (x : PW D ns ts rs B H0 H) (hb : Ex B H) (hr : H r = none) (h0 : H0 r = none) (ha : upd H r (.lst [.int n]) a = none) :
    PW D (ns ++ [n]) (ts ++ [a]) (rs ++ [r]) B H0 (upd (upd (upd H r (.lst [.int n])) a (.tup [.int n, .ref r])) D (.lst ((ts.map V.ref) ++ [.ref a]))) := by
  have har : a ≠ r := fun z => by rw [z, upd_same] at ha; cases ha
  have haH : H a = none := by rw [upd_ne har] at ha; exact ha
  have hDr : r ≠ D := fun z => by rw [z, x.has] at hr; cases hr
  have hDa : a ≠ D := fun z => by rw [z, x.has] at haH; cases haH
  have tin : ∀ b ∈ ts, H b ≠ none := fun b hb => by
    obtain ⟨t, ht⟩ := List.getElem?_of_mem hb
    have hlt := (List.getElem?_eq_some_iff.mp ht).1
    obtain ⟨n1, hn⟩ : ∃ n1, ns[t]? = some n1 := ⟨_, List.getElem?_eq_getElem (by have := x.tl; omega)⟩
    obtain ⟨r1, hr1⟩ : ∃ r1, rs[t]? = some r1 := ⟨_, List.getElem?_eq_getElem (by have := x.tl; have := x.rl; omega)⟩
    rw [x.tup t _ b _ hn ht hr1]
    simp
  have rin : ∀ b ∈ rs, H b ≠ none := fun b hb => by
    obtain ⟨t, ht⟩ := List.getElem?_of_mem hb
    have hlt := (List.getElem?_eq_some_iff.mp ht).1
    obtain ⟨n1, hn⟩ : ∃ n1, ns[t]? = some n1 := ⟨_, List.getElem?_eq_getElem (by have := x.rl; omega)⟩
    rw [x.row t _ b hn ht]
    simp
  have art : a ∉ ts := fun h => tin a h haH
  have arr : a ∉ rs := fun h => rin a h haH
  have rrt : r ∉ ts := fun h => tin r h hr
  have rrr : r ∉ rs := fun h => rin r h hr
  have keep : ∀ b o, H b = some o → b ≠ D → upd (upd (upd H r (.lst [.int n])) a (.tup [.int n, .ref r])) D (.lst ((ts.map V.ref) ++ [.ref a])) b = some o := fun b o hb hD => by
    rw [upd_ne hD, upd_ne (fun z => by rw [z, haH] at hb; cases hb), upd_ne (fun z => by rw [z, hr] at hb; cases hb)]
    exact hb
  have ap : ∀ {α : Type} {l : List α} {u y : α} {t : Nat}, (l ++ [u])[t]? = some y → (t < l.length ∧ l[t]? = some y) ∨ (t = l.length ∧ y = u) := fun {α l u y t} h => by
    by_cases z : t < l.length
    · rw [List.getElem?_append_left z] at h
      exact .inl ⟨z, h⟩
    · rw [List.getElem?_append_right (by omega)] at h
      have hlt := (List.getElem?_eq_some_iff.mp h).1
      have : t - l.length = 0 := by simp at hlt; omega
      rw [this] at h
      cases h
      exact .inr ⟨by omega, rfl⟩
  refine ⟨by rw [upd_same, List.map_append]; rfl, by rw [List.length_append, List.length_append, x.tl]; rfl, by rw [List.length_append, List.length_append, x.rl]; rfl, fun t k b s h1 h2 h3 => ?_, fun t k s h1 h2 => ?_, ?_, ?_, ?_, fun s hs => ?_, fun b hb' => ?_, fun s hs => ?_, fun s hs => ?_⟩
  · rcases ap h1 with ⟨z, h1⟩ | ⟨z, rfl⟩
    · have h2' := (ap h2).resolve_right (fun w => by have := x.tl; omega)
      have h3' := (ap h3).resolve_right (fun w => by have := x.rl; omega)
      exact keep b _ (x.tup t k b s h1 h2'.2 h3'.2) fun w => x.outT (w ▸ List.mem_of_getElem? h2'.2)
    · have h2' := (ap h2).resolve_left (fun w => by have := x.tl; omega)
      have h3' := (ap h3).resolve_left (fun w => by have := x.rl; omega)
      rw [h2'.2, h3'.2, upd_ne hDa, upd_same]
  · rcases ap h1 with ⟨z, h1⟩ | ⟨z, rfl⟩
    · have h2' := (ap h2).resolve_right (fun w => by have := x.rl; omega)
      exact keep s _ (x.row t k s h1 h2'.2) fun w => x.outR (w ▸ List.mem_of_getElem? h2'.2)
    · have h2' := (ap h2).resolve_left (fun w => by have := x.rl; omega)
      rw [h2'.2, upd_ne hDr, upd_ne (Ne.symm har), upd_same]
  · rw [List.nodup_append]
    exact ⟨x.rnd, by simp, fun s hs u hu z => rrr (by rw [List.mem_singleton.mp hu] at z; exact z ▸ hs)⟩
  · intro h
    rcases List.mem_append.mp h with h | h
    · exact x.outT h
    · exact hDa (List.mem_singleton.mp h).symm
  · intro h
    rcases List.mem_append.mp h with h | h
    · exact x.outR h
    · exact hDr (List.mem_singleton.mp h).symm
  · intro h
    rcases List.mem_append.mp hs with hs | hs <;> rcases List.mem_append.mp h with h | h
    · exact x.sep s hs h
    · exact arr (List.mem_singleton.mp h ▸ hs)
    · exact rrt (List.mem_singleton.mp hs ▸ h)
    · exact har ((List.mem_singleton.mp h).symm.trans (List.mem_singleton.mp hs))
  · rcases List.mem_append.mp hb' with h | h
    · exact x.bT b h
    · rw [List.mem_singleton.mp h]; exact none_of hb haH
  · rcases List.mem_append.mp hs with h | h
    · exact x.bR s h
    · rw [List.mem_singleton.mp h]; exact none_of hb hr
  · rcases List.mem_append.mp hs with h | h
    · exact x.fR s h
    · rw [List.mem_singleton.mp h]; exact h0
theorem pw_paired {K : PySem.W.Frag} {H : Hp} : ∀ {ns : List Int} {ts rs : List Addr}, ts.length = ns.length → rs.length = ns.length → (∀ (t : Nat) (n : Int) (a r : Addr), ns[t]? = some n → ts[t]? = some a → rs[t]? = some r → H a = some (.tup [.int n, .ref r])) →
    Paired (fun p (kv : Key × V) => SqT K H p [kV kv.1, kv.2]) ts (kvsOf ns (rs.map V.ref))
  | [], [], [], _, _, _ => .nil
  | n :: ns, a :: ts, r :: rs, h1, h2, h => .cons (.inl (.inl (h 0 n a r rfl rfl rfl))) (pw_paired (by simpa using h1) (by simpa using h2) fun t n' a' r' e1 e2 e3 => h (t + 1) n' a' r' e1 e2 e3)
section
variable {K : PySem.W.Frag} {σ : L2.St} {B H : Hp} {tl : TE}
theorem q_rowsNew {ns : List Int} {i j : Nat} {vs : List Nat} {tz : TS} {D' : Ends} (hl : Ev K tl σ B H (.list (ns.map PyData.int))) (e : Ex B H) (hn : ns.Nodup) (hz : ns.length ≤ 1000)
    (hj : ∀ y, ((wipe σ vs).set j (some y))[j]? = some (some y) := by intro _; rfl) (hw : ∀ y, wipe ((wipe σ vs).set j (some y)) vs = wipe σ vs := by intro _; rfl)
    (q : ∀ p rows B' H', Le [] B H B' H' → H p = none → (∀ r ∈ rows, H r = none) → SW K p ns rows (fun n => [n]) B' H' → tz D' (σ.set i (some (.ref p))) H') :
    tSeq (tAsg (tCB (fun xs H Q => ∃ (a : Addr) (ps : List Addr) (kvs : List (Key × V)), xs = [.ref a] ∧ SqL K H a (ps.map V.ref) ∧ Paired (fun p kv => SqT K H p [kV kv.1, kv.2]) ps kvs ∧ ∀ p, H p = none → Q (.ref p) (upd H p (.dK (mergeK [] kvs))))
      (tCons (tLc (iList K tl) (gName j) tYes (tTup (tCons (tVar j) (tCons (tLst (tCons (tVar j) tNil)) tNil))) vs) tNil)) (gName i)) tz D' σ H := by
  refine hl B H (Le.refl e) _ fun v B1 H1 l1 hv => ?_
  cases hv with
  | lst hs hq =>
    rename_i a ys
    cases ofInts hq
    refine ⟨a, rfl, ⟨_, .inl (.inl (l1.h _ _ hs))⟩, fun D hD => ?_⟩
    have hDb := none_of l1.h hD
    have hsl : 1000 < sizeLine := by rw [sizeLine_eq]; decide
    refine lc_list (xs := ns.map V.int) (fun t Hi => ∃ ts rs, Le [] B1 H1 B1 Hi ∧ PW D (ns.take t) ts rs B1 H Hi) ⟨[], [], Le.made l1.h hD, PW.nil upd_same⟩ (fun t Hi _ w => ?_) (fun t x Hi ht w => ?_) (fun Hi w => ?_)
    · obtain ⟨ts, rs, le, _⟩ := w
      exact .inl (.inl (le.h _ _ hs))
    · obtain ⟨ts, rs, le, x⟩ := w
      rw [List.getElem?_map] at ht
      obtain ⟨n, hnt, rfl⟩ := Option.map_eq_some_iff.mp ht
      refine ⟨hw _, yes_i ?_⟩
      rw [if_pos rfl]
      refine ⟨.int n, hj _, .int n, hj _, by show 1 ≤ sizeLine; omega, fun r hr => ⟨by show 2 ≤ sizeLine; omega, fun a2 ha2 => ⟨ts.map V.ref, ?_, ?_, ts ++ [a2], rs ++ [r], ?_, ?_⟩⟩⟩
      · have hDr : D ≠ r := fun z => by rw [← z, x.has] at hr; cases hr
        have hDa : D ≠ a2 := fun z => by rw [← z, upd_ne hDr, x.has] at ha2; cases ha2
        rw [upd_ne hDa, upd_ne hDr]
        exact x.has
      · have := x.tl
        rw [List.length_take] at this
        rw [List.length_map]
        omega
      · have la : Le [D] B1 H1 B1 (upd Hi r (.lst [.int n])) := le.any.trans (Le.made le.h hr)
        have lb : Le [D] B1 H1 B1 (upd (upd Hi r (.lst [.int n])) a2 (.tup [.int n, .ref r])) := la.trans (Le.made la.h ha2)
        exact (lb.trans (Le.put lb.h hDb (by simp))).local hD
      · have ntk : ns.take (t + 1) = ns.take t ++ [n] := by rw [List.take_add_one, hnt]; rfl
        rw [ntk]
        exact x.add le.h hr ((l1.trans le).back hr) ha2
    · obtain ⟨ts, rs, le, x⟩ := w
      rw [List.length_map, List.take_length] at x
      refine ⟨D, ts, kvsOf ns (rs.map V.ref), rfl, .inl (.inl x.has), pw_paired x.tl x.rl x.tup, fun p hp => ?_⟩
      have mk : mergeK [] (kvsOf ns (rs.map V.ref)) = kvsOf ns (rs.map V.ref) := by
        have z := merge_new (acc := []) (ys := rs.map V.ref) hn (fun n _ => rfl) (by rw [List.length_map, x.rl])
        rw [z]
        rfl
      rw [mk]
      have lp : Le [] B H B1 (upd Hi p (.dK (kvsOf ns (rs.map V.ref)))) := (l1.trans le).trans (Le.made le.h hp)
      have rin : ∀ r ∈ rs, Hi r ≠ none := fun r hr => by
        obtain ⟨t, ht⟩ := List.getElem?_of_mem hr
        have hlt := (List.getElem?_eq_some_iff.mp ht).1
        obtain ⟨n1, hn1⟩ : ∃ n1, ns[t]? = some n1 := ⟨_, List.getElem?_eq_getElem (by have := x.rl; omega)⟩
        rw [x.row t _ r hn1 ht]
        simp
      have hpr : p ∉ rs := fun h => rin p h hp
      refine q p rs B1 _ lp ((l1.trans le).back hp) x.fR ⟨none_of le.h hp, upd_same, x.rl.symm, hn, x.rnd, hpr, fun t n r h1 h2 => ?_, x.bR⟩
      rw [upd_ne (fun z : r = p => hpr (z ▸ List.mem_of_getElem? h2))]
      exact x.row t n r h1 h2
end
end MA

set_option maxRecDepth 100000
set_option maxHeartbeats 2000000
namespace MA
open PySem PySem.Spec PyProof.Rows L2
/-! ## dict(d): a new dict of ours -/
theorem kvs_keys : ∀ {kvs : List (Key × V)} {ns : List Int}, kvs.map (·.1) = ns.map Sum.inl → kvs = kvsOf ns (kvs.map (·.2))
  | [], [], _ => rfl
  | [], _ :: _, h => by cases h
  | _ :: _, [], h => by cases h
  | (k, v) :: kvs, n :: ns, h => by
    injection h with h1 h2
    show (k, v) :: kvs = (Sum.inl n, v) :: kvsOf ns (kvs.map (·.2))
    rw [← kvs_keys h2]
    congr 2
section
variable {K : PySem.W.Frag} {σ : L2.St} {B H : Hp} {ns : List Int} {F : Int → PyData}
theorem od_copy {te : TE} {Q : VK} (h : Ev K te σ B H (effM ns F)) (e : Ex B H) (hn : ns.Nodup) (q : ∀ p B' H', Le [] B H B' H' → H p = none → OD K p ns F B' H' → Q (.ref p) H') :
    tCB (fun xs H Q => ∃ (a : Addr) (kvs : List (Key × V)), xs = [.ref a] ∧ Rd H a (.dK kvs) ∧ ∀ p, H p = none → Q (.ref p) (upd H p (.dK kvs))) (tCons te tNil) σ H Q := by
  refine h B H (Le.refl e) _ fun v B1 H1 l1 hv => ?_
  unfold effM at hv
  generalize hE : ns.map (fun n => (PyData.int n, F n)) = L at hv
  cases hv with
  | dct hd hq =>
    rename_i d kvs ds
    obtain ⟨z1, z2⟩ := zip_parts (by have := hq.length; rwa [List.length_map] at this) hE.symm
    subst z2
    refine ⟨d, kvs, rfl, .inl (l1.h _ _ hd), fun p hp => ?_⟩
    have kl : ns.length = (kvs.map (·.2)).length := by have := congrArg List.length z1; rw [List.length_map, List.length_map] at this; rw [List.length_map]; omega
    refine q p B1 _ (l1.trans (Le.made l1.h hp)) (l1.back hp) ⟨none_of l1.h hp, hn, kvs.map (·.2), kl, ?_, hq⟩
    rw [upd_same, ← kvs_keys z1]
/-- a value of a dict of ours -/
theorem OD.value {p : Addr} (x : OD K p ns F B H) {n : Int} (hn : n ∈ ns) : ∃ v kvs, H p = some (.dK kvs) ∧ valV kvs (.inl n) = some v ∧ Dq K B v (F n) := by
  obtain ⟨ys, h1, h2, h3⟩ := x.has
  obtain ⟨t, ht⟩ := List.getElem?_of_mem hn
  have hlt := (List.getElem?_eq_some_iff.mp ht).1
  obtain ⟨y, hy⟩ : ∃ y, ys[t]? = some y := ⟨_, List.getElem?_eq_getElem (by omega)⟩
  obtain ⟨d, hd, hq⟩ := h3.get hy
  rw [List.getElem?_map, ht] at hd
  cases hd
  exact ⟨y, _, h2, kvs_val x.nd ht hy, hq⟩
/-- d[a], d[b] = d[b], d[a] -/
theorem s_dswap {p : Addr} {i ja jb : Nat} {a b : Int} {D : Ends} (x : OD K p ns F B H) (hl : ns.length ≤ 100000) (e : Ex B H) (ha : a ∈ ns) (hb : b ∈ ns) (hi : σ[i]? = some (some (.ref p))) (h1 : σ[ja]? = some (some (.int a))) (h2 : σ[jb]? = some (some (.int b)))
    (q : ∀ B1 H1, Le [p] B H B1 H1 → OD K p ns (fun k => if k = b then F a else if k = a then F b else F k) B1 H1 → D.nx σ H1) :
    tAsg (tTup (tCons (tDGet (tVar i) (tVar jb)) (tCons (tDGet (tVar i) (tVar ja)) tNil))) (gTup K 2 (gCons (gSub (tVar i) (tVar ja) rSetD) (gCons (gSub (tVar i) (tVar jb) rSetD) gNil))) D σ H := by
  obtain ⟨vb, kb, hkb, hvb, hqb⟩ := x.value hb
  obtain ⟨va, ka, hka, hva, hqa⟩ := x.value ha
  have hsl : 100000 < sizeLine := by rw [sizeLine_eq]; decide
  refine ⟨.ref p, hi, .int b, h2, p, vb, rfl, by have g := DGet.k (k := (.inl b : Key)) hkb; rw [hvb] at g; exact g, ?_⟩
  refine ⟨.ref p, hi, .int a, h1, p, va, rfl, by have g := DGet.k (k := (.inl a : Key)) hka; rw [hva] at g; exact g, ?_⟩
  refine ⟨by show 2 ≤ sizeLine; omega, fun t ht => ?_⟩
  have lt : Le [] B H B (upd H t (.tup [vb, va])) := Le.made e ht
  have x1 := x.pure lt (by simp)
  refine ⟨t, [vb, va], rfl, .inl (.inl upd_same), rfl, vb, [va], rfl, ?_⟩
  obtain ⟨k1, g1, g2, g3⟩ := x1.put (n := a) hqb
  rw [if_pos ha] at g3
  refine ⟨.ref p, hi, .int a, h1, p, _, rfl, DPut.k (k := .inl a) g1 (by omega), ?_⟩
  have l2 : Le [p] B H B (upd (upd H t (.tup [vb, va])) p (.dK (putK k1 (.inl a) vb))) := lt.any.trans (Le.put lt.h x1.own (by simp))
  obtain ⟨k2, f1, f2, f3⟩ := g3.put (n := b) hqa
  rw [if_pos hb] at f3
  refine ⟨va, [], rfl, .ref p, hi, .int b, h2, p, _, rfl, DPut.k (k := .inl b) f1 (by omega), rfl, ?_⟩
  exact q B _ (l2.trans (Le.put l2.h g3.own (by simp))) f3
end
end MA

set_option maxRecDepth 100000
set_option maxHeartbeats 2000000
namespace MA
open PySem PySem.Spec PyProof.Rows L2
section
variable {K : PySem.W.Frag} {σ : L2.St} {B H : Hp} {tl te : TE} {t : TT} {D : Ends} {tu tb tz : TS} {gg : TG} {M : List Addr}
/-- a loop over a list, some things of ours may change within -/
theorem s_forM {xs : List PyData} (M : List Addr) (hl : Ev K tl σ B H (.list xs)) (e : Ex B H) (I : Nat → L2.St → Hp → Hp → Prop) (h0 : ∀ B1 H1, Le [] B H B1 H1 → I 0 σ B1 H1)
    (hs : ∀ (i : Nat) (d : PyData) (v : V) σ' B' H' N, Le M B H B' H' → xs[i]? = some d → Dq K B' v d → I i σ' B' H' → (∀ σ3 B3 H3, Le M B' H' B3 H3 → I (i + 1) σ3 B3 H3 → N σ3 H3) →
      gg v σ' H' fun σ2 H2 => tb { D with nx := N, ct := N, bk := D.nx } σ2 H2)
    (hd : ∀ σ' B' H', Le M B H B' H' → I xs.length σ' B' H' → D.nx σ' H') : tFor (iList K tl) gg tb D σ H := by
  refine hl B H (Le.refl e) _ fun u B1 H1 l1 hu => ?_
  cases hu with
  | lst hv hq =>
    rename_i a ys
    refine ⟨a, rfl, ⟨ys, .inl (.inl (l1.h _ _ hv))⟩, for_list (xs := ys) (fun i σ' H' => ∃ B', Le M B1 H1 B' H' ∧ I i σ' B' H') ⟨B1, Le.refl l1.h, h0 B1 H1 l1⟩ (fun i σ' H' _ p => ?_) (fun i x σ' H' hi p => ?_) (fun σ' H' p => ?_)⟩
    · obtain ⟨B', l, _⟩ := p
      exact .inl (.inl (l.h _ _ (l.b _ _ hv)))
    · obtain ⟨B', l, hI⟩ := p
      obtain ⟨d, hd, hx⟩ := hq.get hi
      exact hs i d x σ' B' H' _ (l1.any.trans l) hd (hx.mono l.b) hI fun σ3 B3 H3 l3 hI3 => ⟨B3, l.trans l3, hI3⟩
    · obtain ⟨B', l, hI⟩ := p
      rw [hq.length] at hI
      exact hd σ' B' H' (l1.any.trans l) hI
theorem q_forM {xs : List PyData} (M : List Addr) (hl : Ev K tl σ B H (.list xs)) (e : Ex B H) (I : Nat → L2.St → Hp → Hp → Prop) (h0 : ∀ B1 H1, Le [] B H B1 H1 → I 0 σ B1 H1)
    (hs : ∀ (i : Nat) (d : PyData) (v : V) σ' B' H' N, Le M B H B' H' → xs[i]? = some d → Dq K B' v d → I i σ' B' H' → (∀ σ3 B3 H3, Le M B' H' B3 H3 → I (i + 1) σ3 B3 H3 → N σ3 H3) →
      gg v σ' H' fun σ2 H2 => tb { D with nx := N, ct := N, bk := tz D } σ2 H2)
    (hd : ∀ σ' B' H', Le M B H B' H' → I xs.length σ' B' H' → tz D σ' H') : tSeq (tFor (iList K tl) gg tb) tz D σ H := s_forM (D := { D with nx := tz D }) M hl e I h0 hs hd
/-- an if without else that keeps a word, some things of ours may change within -/
theorem q_whenM {k : Bool} (M : List Addr) (I : L2.St → Hp → Hp → Prop) (h : EvT t σ B H k) (e : Ex B H) (h1 : k = true → ∀ B' H', Le [] B H B' H' → ∀ N : L2.St → Hp → Prop, (∀ σ' B2 H2, Le M B' H' B2 H2 → I σ' B2 H2 → N σ' H2) → tu { D with nx := N } σ H') (h2 : k = false → ∀ B' H', Le [] B H B' H' → I σ B' H')
    (hz : ∀ σ' B' H', Le M B H B' H' → I σ' B' H' → tz D σ' H') : tSeq (tIfS t tu tNext) tz D σ H :=
  q_when h e (fun hk B' H' l => h1 hk B' H' l _ fun σ' B2 H2 l2 i => hz σ' B2 H2 (l.any.trans l2) i) fun hk B' H' l => hz σ B' H' l.any (h2 hk B' H' l)
theorem q_parM {ta : TA} {i j : Nat} (h : ta σ H fun vs H1 => ∃ v w, vs = [v, w] ∧ tz D ((σ.set i (some v)).set j (some w)) H1) : tSeq (tPar i j ta) tz D σ H := h
theorem q_tupG {ts : TA} (h : ts σ H fun vs H1 => vs.length ≤ sizeLine ∧ ∀ p, H1 p = none → gg (.ref p) σ (upd H1 p (.tup vs)) fun σ2 H2 => tz D σ2 H2) : tSeq (tAsg (tTup ts) gg) tz D σ H := h
/-- [k for k in a list of ints if ..] -/
theorem ev_compI {ns : List Int} {tt : TT} {j : Nat} {vs : List Nat} (f : Int → Bool) (hl : Ev K tl σ B H (.list (ns.map PyData.int))) (hz : ns.length ≤ 100000)
    (ht : ∀ n ∈ ns, ∀ B1 H1, Le [] B H B1 H1 → EvT tt ((wipe σ vs).set j (some (.int n))) B1 H1 (f n)) (hk : ∀ y, ((wipe σ vs).set j (some y))[j]? = some (some y) := by intro _; rfl) (hw : ∀ x, wipe ((wipe σ vs).set j (some x)) vs = wipe σ vs := by intro _; rfl) :
    Ev K (tLc (iList K tl) (gName j) tt (tVar j) vs) σ B H (.list ((ns.filter f).map PyData.int)) := by
  have z := ev_compL (K := K) (te := tVar j) (tt := tt) (j := j) (vs := vs) (fun d => match d with | .int n => f n | _ => false) (fun d => d) hl (by rw [List.length_map]; exact hz) (fun d v B1 H1 l hd hv => by
    obtain ⟨n, hn, rfl⟩ := List.mem_map.mp hd
    cases hv
    exact ht n hn B1 H1 l) (fun d v B1 H1 l hd hv _ => ev_var (hk _) hv) hw
  rw [List.map_id', List.filter_map] at z
  exact z
/-! what is drawn -/
variable {g p : Addr} {ta : TE} {R : PyData → Prop} {c m : Nat} {ns : List Int} {F : Int → PyData}
theorem ew_ifE {k : Bool} (ht : ∀ B1 H1, Le [g] B H B1 H1 → EvT t σ B1 H1 k) (h1 : k = true → Ew K g c ta σ B H R) (h2 : k = false → Ew K g c te σ B H R) : Ew K g c (tIf t ta te) σ B H R := fun m B1 H1 hm l w Q q =>
  ht B1 H1 l B1 H1 (Le.refl l.h) _ fun B2 H2 l2 => by
    cases k with
    | true => exact h1 rfl m B2 H2 hm (l.trans l2.any) (w.pure l2) Q fun d v B3 H3 r l3 w3 hv => q d v B3 H3 r (l2.any.trans l3) w3 hv
    | false => exact h2 rfl m B2 H2 hm (l.trans l2.any) (w.pure l2) Q fun d v B3 H3 r l3 w3 hv => q d v B3 H3 r (l2.any.trans l3) w3 hv
/-- a drawn item of a list of ints -/
theorem ew_pickL {E : XK} {i j : Nat} {v : V} (hj : σ[j]? = some (some (.ref g))) (hi : σ[i]? = some (some v)) (hv : Dq K B v (.list (ns.map PyData.int))) (h0 : 1 ≤ ns.length) (h1 : ns.length ≤ 1000) :
    Ew K g 1 (tOp (rIx K) (tVar i) (tCall (PailS K) [] E (tCons (tVar j) (tCons (tCB (rLenA K) (tCons (tVar i) tNil)) tNil)))) σ B H (RI fun r => r ∈ ns) :=
  Ew.wk (ew_ixR (n := ns.length) (a := 0) (P := fun r => 0 ≤ r ∧ r < ns.length) ((ew_of fun B1 H1 l => ev_var hi (hv.mono l.b)).imp fun d h => ⟨_, h, List.length_map .., fun x hx => by
      obtain ⟨k, hk, rfl⟩ := List.mem_map.mp hx
      exact ⟨k, rfl, hk⟩⟩) (ew_pailC (n := ns.length) hj (fun B1 H1 l => by
      have c := rc_lenL (K := K) (ds := ns.map PyData.int)
      rw [List.length_map] at c
      exact ev_cb (ea_cons (ev_var hi (hv.mono l.b)) ea_nil) c) (by omega) (by omega)) fun i h => h) (by decide)
/-- d[k] of a dict of ours, the key drawn -/
theorem ew_dgetO {P : Int → Prop} {i : Nat} {tk : TE} (x : OD K p ns F B H) (hpg : p ≠ g) (hi : σ[i]? = some (some (.ref p))) (h : Ew K g c tk σ B H (RI P)) (hP : ∀ k, P k → k ∈ ns) : Ew K g c (tDGet (tVar i) tk) σ B H (fun d => ∃ k, P k ∧ d = F k) := fun m B1 H1 hm l w Q q =>
  ⟨.ref p, hi, h m B1 H1 hm l w _ fun d v B2 H2 r l2 w2 hv => by
    obtain ⟨k, rfl, hk⟩ := r
    cases hv
    have x2 := (x.pure l (by simp [hpg])).pure l2 (by simp [hpg])
    obtain ⟨v, kvs, h1, h2, h3⟩ := x2.value (hP k hk)
    exact ⟨p, v, rfl, by have g := DGet.k (k := (.inl k : Key)) h1; rw [h2] at g; exact g, q (F k) v B2 H2 ⟨k, hk, rfl⟩ l2 w2 h3⟩⟩
theorem effM_keys {ns ns' : List Int} {F F' : Int → PyData} (h : effM ns F = effM ns' F') : ns = ns' := by
  unfold effM at h
  injection h with h
  have h2 := congrArg (List.map Prod.fst) h
  rw [List.map_map, List.map_map] at h2
  have inj : ∀ {a b : List Int}, a.map PyData.int = b.map PyData.int → a = b := by
    intro a
    induction a with
    | nil => intro b h; cases b with | nil => rfl | cons _ _ => cases h
    | cons x a ih =>
      intro b h
      cases b with
      | nil => cases h
      | cons y b =>
        injection h with h1 h2
        injection h1 with h1
        rw [h1, ih h2]
  exact inj h2
end
/-- the last item, and all but the last one -/
theorem cut_m1 (m : List Int) : cutG (m.map PyData.int) none (some (-1)) = m.dropLast.map PyData.int := by
  unfold cutG
  have e : HT.sIx (m.map PyData.int).length (m.map PyData.int).length (some (-1)) = m.length - 1 := by
    show (if (-1 : Int) < 0 then ((-1 : Int) + ((m.map PyData.int).length : Int)).toNat else min (-1 : Int).toNat (m.map PyData.int).length) = _
    rw [if_pos (by decide), List.length_map]
    omega
  rw [HT.sIx_none, e, List.drop_zero, Nat.sub_zero, List.map_dropLast, List.dropLast_eq_take, List.length_map]
theorem cut_l1 (m : List Int) : cutG (m.map PyData.int) (some (-1)) none = (m.drop (m.length - 1)).map PyData.int := by
  unfold cutG
  have e : HT.sIx (m.map PyData.int).length 0 (some (-1)) = m.length - 1 := by
    show (if (-1 : Int) < 0 then ((-1 : Int) + ((m.map PyData.int).length : Int)).toNat else min (-1 : Int).toNat (m.map PyData.int).length) = _
    rw [if_pos (by decide), List.length_map]
    omega
  rw [HT.sIx_none, e, List.map_drop]
  exact List.take_of_length_le (by rw [List.length_drop]; exact Nat.le_refl _)
end MA

set_option maxRecDepth 100000
set_option maxHeartbeats 2000000
namespace MA
open PySem PySem.Spec PyProof.Rows L2
/-! ## list(zip(a, b)), two lists -/
/-- the zip on its way: both lists walked as far as k, the tuple of the turn before perhaps still out -/
def ZWay (h : Heap) (z u v p q la lb S : Addr) (fs gs : Array Value) (k : Nat) : Prop :=
  IsPair h u (.ref p) (.ref q) ∧ h.IsListIter p la k ∧ h.IsListIter q lb k ∧ h.IsList la fs ∧ h.IsList lb gs ∧
    ((IsZip h z u v .none ∧ ∃ m n, IsPair h v m n) ∨ ∃ T ok ob, IsZipHeld h z u v T ok ∧ h.get? T = some ob ∧ T ≠ z ∧ T ≠ p ∧ T ≠ q ∧ T ≠ S)
/-- the tuples so far -/
structure ZTup (fs gs : Array Value) (S : Addr) (h : Heap) (ts : List Addr) : Prop where
  up : ts.Pairwise (· < ·)
  far : ∀ t ∈ ts, S < t
  has : ∀ (j : Nat) (t : Addr), ts[j]? = some t → ∃ f g, fs[j]? = some f ∧ gs[j]? = some g ∧ h.get? t = some { cls := .type "tuple", data := .seq #[f, g] }
theorem zip_lenN : typeLookup (.type "zip") "__len__" = pure none := by rw [typeLookup_type, builtinLookup_eq_fast]; kernel_rfl
theorem zip_hintN : typeLookup (.type "zip") "__length_hint__" = pure none := by rw [typeLookup_type, builtinLookup_eq_fast]; kernel_rfl
section
variable {prog : Program} {w : World} {A : Around} {s : Shared} {z u v p q la lb S : Addr} {fs gs : Array Value}
theorem ZWay.keep {h h' : Heap} {k : Nat} (Z : ZipApart z u v p q la lb) (t : ZWay h z u v p q la lb S fs gs k) (n1 : z ≠ S) (n2 : u ≠ S) (n3 : v ≠ S) (n4 : p ≠ S) (n5 : q ≠ S) (n6 : la ≠ S) (n7 : lb ≠ S) (hk : ∀ b o, b ≠ S → h.get? b = some o → h'.get? b = some o) : ZWay h' z u v p q la lb S fs gs k := by
  obtain ⟨t1, t2, t3, t4, t5, t6⟩ := t
  refine ⟨hk u _ n2 t1, t2.at fun o e => hk p o n4 e, t3.at fun o e => hk q o n5 e, t4.at fun o e => hk la o n6 e, t5.at fun o e => hk lb o n7 e, ?_⟩
  rcases t6 with ⟨c1, m, n, c2⟩ | ⟨T, ok, ob, c1, c2, c3, c4, c5, c6⟩
  · exact .inl ⟨hk z _ n1 c1, m, n, hk v _ n3 c2⟩
  · exact .inr ⟨T, ok, ob, hk z _ n1 c1, hk T _ c6 c2, c3, c4, c5, c6⟩
theorem zip_turn {k : Nat} {f g : Value} {E : Value → Shared → Prop} {Q : Option Value → Shared → Prop} (Z : ZipApart z u v p q la lb) (t : ZWay s.heap z u v p q la lb S fs gs k) (hS : S < s.heap.objs.size) (hf : fs[k]? = some f) (hg : gs[k]? = some g)
    (fin : ∀ h', ZWay h' z u v p q la lb S fs gs (k + 1) → h'.get? s.heap.objs.size = some { cls := .type "tuple", data := .seq #[f, g] } → (∀ b o, b ≠ z → b ≠ v → b ≠ p → b ≠ q → s.heap.get? b = some o → h'.get? b = some o) → Q (some (.ref s.heap.objs.size)) { s with heap := h' }) :
    wpAny (model prog w) A (pyNext (.ref z)) Q E s := by
  obtain ⟨t1, t2, t3, t4, t5, t6⟩ := t
  have big : ∀ {c o}, s.heap.get? c = some o → s.heap.objs.size ≠ c := fun e => Nat.ne_of_gt (Heap.lt_size e)
  have np : s.heap.objs.size ≠ p := by obtain ⟨_, e, _⟩ := t2; exact big e
  have nq : s.heap.objs.size ≠ q := by obtain ⟨_, e, _⟩ := t3; exact big e
  rcases t6 with ⟨c1, m, n, c2⟩ | ⟨T, ok, ob, c1, c2, c3, c4, c5, c6⟩
  · refine wpAny_pyNext_zip_item Z c1 t1 c2 t2 t3 t4 t5 hf hg fun h' b1 b2 b3 b4 b5 b6 hk => ?_
    exact fin h' ⟨hk u _ Z.TIz Z.TITO Z.TIi1 Z.TIi2 t1, b3, b4, t4.at fun o e => hk la o Z.l1z Z.l1TO Z.l1i1 Z.l1i2 e, t5.at fun o e => hk lb o Z.l2z Z.l2TO Z.l2i1 Z.l2i2 e, .inr ⟨_, false, _, b1, b5, big c1, np, nq, Nat.ne_of_gt hS⟩⟩ b5 fun b o h1 h2 h3 h4 e => hk b o h1 h2 h3 h4 e
  · refine wpAny_pyNext_zip_item_held Z c1 c2 t1 t2 t3 t4 t5 hf hg fun h' b1 b3 b4 b5 b6 hk => ?_
    exact fin h' ⟨hk u _ Z.TIz Z.TIi1 Z.TIi2 t1, b3, b4, t4.at fun o e => hk la o Z.l1z Z.l1i1 Z.l1i2 e, t5.at fun o e => hk lb o Z.l2z Z.l2i1 Z.l2i2 e, .inr ⟨T, true, ob, b1, hk T _ c3 c4 c5 c2, c3, c4, c5, c6⟩⟩ b5 fun b o h1 _ h3 h4 e => hk b o h1 h3 h4 e
theorem zip_stop {k : Nat} {E : Value → Shared → Prop} {Q : Option Value → Shared → Prop} (hA : A.handled = none) (Z : ZipApart z u v p q la lb) (t : ZWay s.heap z u v p q la lb S fs gs k) (hx : fs[k]? = none ∨ gs[k]? = none)
    (fin : ∀ h', (∀ b o, b ≠ z → b ≠ v → b ≠ p → b ≠ q → s.heap.get? b = some o → h'.get? b = some o) → Q none { s with heap := h' }) : wpAny (model prog w) A (pyNext (.ref z)) Q E s := by
  obtain ⟨t1, t2, t3, t4, t5, t6⟩ := t
  rcases t6 with ⟨c1, m, n, c2⟩ | ⟨T, ok, ob, c1, c2, c3, c4, c5, c6⟩
  · exact wpAny_pyNext_zip_end hA Z c1 t1 c2 t2 t3 t4 t5 hx fun h' hk => fin h' fun b o h1 h2 h3 h4 e => hk b o h1 h2 h3 h4 e
  · exact wpAny_pyNext_zip_end_held hA Z c1 c2 t1 t2 t3 t4 t5 hx fun h' hk => fin h' fun b o h1 _ h3 h4 e => hk b o h1 h3 h4 e
theorem ZTup.keep {h h' : Heap} {ts : List Addr} (t : ZTup fs gs S h ts) (hk : ∀ b o, S < b → h.get? b = some o → h'.get? b = some o) : ZTup fs gs S h' ts :=
  ⟨t.up, t.far, fun j b hj => by
    obtain ⟨f, g, e1, e2, e3⟩ := t.has j b hj
    exact ⟨f, g, e1, e2, hk b _ (t.far b (List.mem_of_getElem? hj)) e3⟩⟩
/-- the loop that fills the list S -/
theorem zip_fill {R : Result → Shared → Prop} (hA : A.handled = none) (Z : ZipApart z u v p q la lb) (n1 : z < S) (n2 : u < S) (n3 : v < S) (n4 : p < S) (n5 : q < S) (n6 : la < S) (n7 : lb < S) (hsz : fs.size ≤ sizeLine) (hl : fs.size = gs.size) (res : Value) {h₀ : Heap}
    (fin : ∀ h' tk acc c ts, (∀ b o, b < S → b ≠ z → b ≠ v → b ≠ p → b ≠ q → h₀.get? b = some o → h'.get? b = some o) → h'.get? S = some { cls := .type "list", dict := none, data := .seq acc c, slots := #[] } → ts.length = fs.size → ZTup fs gs S h' ts →
      acc.toList = ts.map Value.ref → R (.ok (.ret res)) { s with heap := h', toks := tk }) :
    ∀ (m k : Nat) (h : Heap) (tk c : Nat) (acc : Array Value) (ts : List Addr), fs.size - k = m → k ≤ fs.size → ZWay h z u v p q la lb S fs gs k → (∀ b o, b < S → b ≠ z → b ≠ v → b ≠ p → b ≠ q → h₀.get? b = some o → h.get? b = some o) →
      h.get? S = some { cls := .type "list", dict := none, data := .seq acc c, slots := #[] } → acc.toList = ts.map Value.ref → ts.length = k → ZTup fs gs S h ts →
      codeAny (model prog w) A (.builtin "list.extend.loop" ⟨[.ref S, .ref z, res], []⟩) R { s with heap := h, toks := tk } := by
  have far : ∀ {b c : Addr}, c < S → S ≤ b → b ≠ c := fun h1 h2 => Nat.ne_of_gt (Nat.lt_of_lt_of_le h1 h2)
  intro m
  induction m with
  | zero =>
    intro k h tk c acc ts hm hk way hkp hS hacc hts hZ
    have ek : k = fs.size := by omega
    refine codeAny_builtin PySem.F.entry_extend_loop ?_
    rw [Around.under_plainId PySem.F.plain_extend_loop _]
    show wpAny _ A.in1 (pyNext (.ref z) >>= _) _ _ _
    refine wpAny_bind (zip_stop (s := { s with heap := h, toks := tk }) (A := A.in1) hA Z way (.inl (Array.getElem?_eq_none (by omega))) fun h' e => ?_)
    have up : ∀ b o, S ≤ b → h.get? b = some o → h'.get? b = some o := fun b o hb q' => e b o (far n1 hb) (far n3 hb) (far n4 hb) (far n5 hb) q'
    exact wpAny_pure (fin h' tk acc c ts (fun b o h1 h2 h3 h4 h5 q' => e b o h2 h3 h4 h5 (hkp b o h1 h2 h3 h4 h5 q')) (up S _ (Nat.le_refl _) hS) (by omega) (hZ.keep fun b o hb q' => up b o (Nat.le_of_lt hb) q') hacc)
  | succ m ih =>
    intro k h tk c acc ts hm hk way hkp hS hacc hts hZ
    have hlt : k < fs.size := by omega
    have asz : acc.size = k := by rw [← Array.length_toList, hacc, List.length_map, hts]
    have hSl : S < h.objs.size := Heap.lt_size hS
    have ef := Array.getElem?_eq_getElem hlt
    have eg := Array.getElem?_eq_getElem (show k < gs.size by omega)
    refine codeAny_builtin PySem.F.entry_extend_loop ?_
    rw [Around.under_plainId PySem.F.plain_extend_loop _]
    show wpAny _ A.in1 (pyNext (.ref z) >>= _) _ _ _
    refine wpAny_bind (zip_turn (s := { s with heap := h, toks := tk }) Z way hSl ef eg fun h' way' ht e => ?_)
    dsimp only at ht e ⊢
    have up : ∀ b o, S ≤ b → h.get? b = some o → h'.get? b = some o := fun b o hb q' => e b o (far n1 hb) (far n3 hb) (far n4 hb) (far n5 hb) q'
    have hS' := up S _ (Nat.le_refl _) hS
    have push : ∀ b o, b ≠ S → h'.get? b = some o → (h'.update S (Obj.mapSeq (·.push (Value.ref h.objs.size)))).get? b = some o := fun b o hb q' => (Heap.get?_update_other _ _ (Ne.symm hb)).trans q'
    show wpAny _ A.in1 (updateSeq S (·.push (Value.ref h.objs.size)) >>= _) _ _ _
    refine wpAny_bind ?_
    refine wpAny_updateSeq hS' rfl (wpAny_pure ⟨plainId_quiet PySem.F.plain_extend_loop _, ih (k + 1) _ tk _ (acc.push (Value.ref h.objs.size)) (ts ++ [h.objs.size]) (by omega) hlt (way'.keep Z (Nat.ne_of_lt n1) (Nat.ne_of_lt n2) (Nat.ne_of_lt n3) (Nat.ne_of_lt n4) (Nat.ne_of_lt n5) (Nat.ne_of_lt n6) (Nat.ne_of_lt n7) push)
      (fun b o h1 h2 h3 h4 h5 q' => push b o (Nat.ne_of_lt h1) (e b o h2 h3 h4 h5 (hkp b o h1 h2 h3 h4 h5 q'))) (Heap.get?_update_self _ hS' rfl) (by rw [Array.toList_push, hacc, List.map_append]; rfl) (by rw [List.length_append, hts]; rfl) ⟨?_, ?_, ?_⟩⟩) (by rw [asz]; omega) (by show (acc.push (Value.ref h.objs.size)).size ≤ sizeLine + 1; rw [Array.size_push, asz]; omega)
    · refine List.pairwise_append.mpr ⟨hZ.up, List.pairwise_singleton _ _, fun a ha b hb => ?_⟩
      rw [List.mem_singleton.mp hb]
      obtain ⟨j, hj⟩ := List.mem_iff_getElem?.mp ha
      obtain ⟨_, _, _, _, e3⟩ := hZ.has j a hj
      exact Heap.lt_size e3
    · intro a ha
      rcases List.mem_append.mp ha with ha | ha
      · exact hZ.far a ha
      · rw [List.mem_singleton.mp ha]; exact hSl
    · intro j b hj
      by_cases h1 : j < ts.length
      · rw [List.getElem?_append_left h1] at hj
        obtain ⟨f, g, e1, e2, e3⟩ := hZ.has j b hj
        have hb := hZ.far b (List.mem_of_getElem? hj)
        exact ⟨f, g, e1, e2, push b _ (Nat.ne_of_gt hb) (up b _ (Nat.le_of_lt hb) e3)⟩
      · have hj2 := (List.getElem?_eq_some_iff.mp hj).1
        rw [List.length_append, List.length_singleton] at hj2
        have ej : j = ts.length := by omega
        subst ej
        have hb : h.objs.size = b := by simpa using hj
        subst hb
        rw [hts]
        exact ⟨_, _, ef, eg, push _ _ (Nat.ne_of_gt hSl) ht⟩
theorem zip_call {E : Value → Shared → Prop} {Q : Value → Shared → Prop} (hA : A.handled = none) (Z : ZipApart z u v p q la lb) (hz : IsZip s.heap z u v .none) (hu : IsPair s.heap u (.ref p) (.ref q)) (hv : ∃ m n, IsPair s.heap v m n) (hp : s.heap.IsListIter p la 0) (hq : s.heap.IsListIter q lb 0) (hla : s.heap.IsList la fs) (hlb : s.heap.IsList lb gs)
    (hsz : fs.size ≤ sizeLine) (hl : fs.size = gs.size)
    (fin : ∀ h' tk acc c ts, (∀ b o, b ≠ z → b ≠ v → b ≠ p → b ≠ q → s.heap.get? b = some o → h'.get? b = some o) → h'.get? s.heap.objs.size = some { cls := .type "list", dict := none, data := .seq acc c, slots := #[] } → ts.length = fs.size → ZTup fs gs s.heap.objs.size h' ts →
      acc.toList = ts.map Value.ref → Q (.ref s.heap.objs.size) { s with heap := h', toks := tk }) :
    wpAny (model prog w) A (call (.type "list") [.ref z]) Q E s := by
  refine callType_codes (Q₁ := fun obj s₁ => obj = .ref s.heap.objs.size ∧ s₁ = { s with heap := s.heap.push { cls := .type "list", data := .seq #[] } }) PySem.F.called_list (PySem.F.typeCall_list_1 _) PySem.F.entry_list_init
    (code_list_new _ ⟨rfl, rfl⟩) fun obj s₁ h₁ => ?_
  obtain ⟨rfl, rfl⟩ := h₁
  obtain ⟨m, n, hv⟩ := hv
  have lz : z < s.heap.objs.size := Heap.lt_size hz
  have lu : u < s.heap.objs.size := Heap.lt_size hu
  have lv : v < s.heap.objs.size := Heap.lt_size hv
  have lp : p < s.heap.objs.size := by obtain ⟨_, e, _⟩ := hp; exact Heap.lt_size e
  have lq : q < s.heap.objs.size := by obtain ⟨_, e, _⟩ := hq; exact Heap.lt_size e
  have lla : la < s.heap.objs.size := by obtain ⟨_, e, _⟩ := hla; exact Heap.lt_size e
  have llb : lb < s.heap.objs.size := by obtain ⟨_, e, _⟩ := hlb; exact Heap.lt_size e
  generalize hSS : s.heap.objs.size = S at *
  have hS : (s.heap.push { cls := .type "list", data := .seq #[] }).get? S = some { cls := .type "list", data := .seq #[] } := by rw [← hSS]; exact Heap.get?_push_size _ rfl
  refine ⟨⟨_, hS, rfl⟩, PySem.F.args_list_init_2 _ _, ?_⟩
  have way0 : ∀ h : Heap, (∀ b o, b < S → s.heap.get? b = some o → h.get? b = some o) → ZWay h z u v p q la lb S fs gs 0 := fun h k => ⟨k u _ lu hu, hp.at fun o e => k p o lp e, hq.at fun o e => k q o lq e, hla.at fun o e => k la o lla e, hlb.at fun o e => k lb o llb e, .inl ⟨k z _ lz hz, m, n, k v _ lv hv⟩⟩
  have go : ∀ (h : Heap) (c tk : Nat), (∀ b o, b < S → s.heap.get? b = some o → h.get? b = some o) → h.get? S = some { cls := .type "list", dict := none, data := .seq #[] c, slots := #[] } → codeAny (model prog w) A.in1 (.builtin "list.extend.loop" ⟨[.ref S, .ref z, .none], []⟩) (wants (fun r s₂ => r = .none ∧ Q (.ref S) s₂) E) { s with heap := h, toks := tk } := fun h c tk k hS' =>
    zip_fill (s := s) (A := A.in1) (h₀ := s.heap) hA Z lz lu lv lp lq lla llb hsz hl .none (fun h' tk' acc c' ts k' hS2 e1 e2 e3 => ⟨rfl, fin h' tk' acc c' ts (fun b o h2 h3 h4 h5 e => k' b o (by rw [← hSS]; exact Heap.lt_size e) h2 h3 h4 h5 e) hS2 e1 e2 e3⟩)
      fs.size 0 h tk c #[] [] (Nat.sub_zero _) (Nat.zero_le _) (way0 h k) (fun b o h1 _ _ _ _ e => k b o h1 e) hS' rfl rfl ⟨List.Pairwise.nil, fun _ h => (by cases h), fun j a h => by simp at h⟩
  show wpAny _ _ (do let old ← Builtin.List.listItems (.ref S); Builtin.List.listUpdate (.ref S) (fun _ => #[]); letGo old.toList.reverse; Builtin.List.listExtendWith (.ref S) (.ref z) .none) _ _ _
  refine wpAny_bind ?_
  unfold Builtin.List.listItems
  refine wpAny_bind (wpAny_seqItems hS rfl (wpAny_pure ?_))
  show wpAny _ _ (updateSeq S (fun _ => #[]) >>= fun _ => letGo (#[] : Array Value).toList.reverse >>= fun _ => Builtin.List.listExtendWith (.ref S) (.ref z) .none) _ _ _
  refine wpAny_bind (wpAny_updateSeq hS rfl ?_)
  have hS2 := Heap.get?_update_self (Obj.mapSeq (fun _ => (#[] : Array Value))) hS rfl
  have old : ∀ b o, b < S → s.heap.get? b = some o → ((s.heap.push { cls := .type "list", data := .seq #[] }).update S (Obj.mapSeq (fun _ => (#[] : Array Value)))).get? b = some o :=
    fun b o hb e => (Heap.get?_update_other _ _ (Nat.ne_of_gt hb)).trans (Heap.get?_push_of_some _ e)
  refine wpAny_bind (wpAny_letGo ?_)
  have way1 := way0 _ old
  unfold Builtin.List.listExtendWith
  refine wpAny_bind (wpAny_typeOf (T := "zip") ⟨_, old z _ lz hz, rfl⟩ ?_)
  have d1 : Builtin.List.listSameRef (.ref S) (.ref z) = false := by simp [Builtin.List.listSameRef, Nat.ne_of_gt lz]
  have d2 : (Value.type "zip" == Value.type "list") = false := by decide
  have d3 : (Value.type "zip" == Value.type "tuple") = false := by decide
  simp only [d1, d2, d3, Bool.or_false, Bool.false_eq_true, if_false]
  refine wpAny_bind (wpAny_pyIter_zip (old z _ lz hz) ?_)
  refine wpAny_bind (wpAny_holding ?_)
  unfold Builtin.List.listLengthHint
  refine wpAny_bind (wpAny_specialOf (T := "zip") ⟨_, old z _ lz hz, rfl⟩ zip_lenN ?_)
  show wpAny _ _ (specialOf (Value.ref z) (Str.ofString "__length_hint__") >>= _) _ _ _
  refine wpAny_bind (wpAny_specialOf (T := "zip") ⟨_, old z _ lz hz, rfl⟩ zip_hintN ?_)
  refine wpAny_pure ?_
  refine wpAny_ite_split (fun _ => ?_) (fun _ => wpAny_pure ⟨plainId_quiet PySem.F.plain_extend_loop _, go _ _ _ old hS2⟩)
  refine wpAny_bind (wpAny_rule ?_)
  refine wpAny_bind ?_
  show wpAny _ _ (updateSeq S (·.push .none) >>= fun _ => updateSeq S (·.pop)) _ _ _
  refine wpAny_bind (wpAny_updateSeq hS2 rfl ?_)
  have hS3 := Heap.get?_update_self (Obj.mapSeq (·.push Value.none)) hS2 rfl
  refine wpAny_updateSeq (hz := by seq_fits) hS3 rfl ?_
  have hS4 := Heap.get?_update_self (Obj.mapSeq (·.pop)) hS3 rfl
  refine wpAny_pure ⟨plainId_quiet PySem.F.plain_extend_loop _, go _ _ _ (fun b o hb e => ?_) hS4⟩
  exact (Heap.get?_update_other _ _ (Nat.ne_of_gt hb)).trans ((Heap.get?_update_other _ _ (Nat.ne_of_gt hb)).trans (old b o hb e))
end
/-- tuples laid at their places -/
def putZ : Hp → List Addr → List (V × V) → Hp
  | H, t :: ts, l :: ls => putZ (upd H t (.tup [l.1, l.2])) ts ls
  | H, _, _ => H
theorem putZ_off {b : Addr} : ∀ {ts : List Addr} {ls : List (V × V)} {H : Hp}, b ∉ ts → putZ H ts ls b = H b
  | [], _, _, _ => rfl
  | _ :: _, [], _, _ => rfl
  | t :: ts, l :: ls, H, h => by
    show putZ _ ts ls b = _
    rw [putZ_off (fun y => h (List.mem_cons_of_mem _ y)), upd_ne (fun y : b = t => h (by rw [y]; exact List.mem_cons_self ..))]
theorem putZ_get : ∀ {ts : List Addr} {ls : List (V × V)} {H : Hp} {j : Nat} {t : Addr} {l : V × V}, ts.Nodup → ts[j]? = some t → ls[j]? = some l → putZ H ts ls t = some (.tup [l.1, l.2])
  | [], _, _, _, _, _, _, h, _ => by simp at h
  | _ :: _, [], _, _, _, _, _, _, h => by simp at h
  | t0 :: ts, l0 :: ls, H, 0, t, l, hn, h1, h2 => by
    cases h1
    cases h2
    show putZ _ ts ls _ = _
    rw [putZ_off (List.nodup_cons.mp hn).1, upd_same]
  | t0 :: ts, l0 :: ls, H, j + 1, t, l, hn, h1, h2 => by
    have f1 : ts[j]? = some t := by simpa using h1
    have f2 : ls[j]? = some l := by simpa using h2
    show putZ (upd H t0 _) ts ls t = _
    exact putZ_get (List.nodup_cons.mp hn).2 f1 f2
/-- a new list of new tuples -/
def NewTups (H H' : Hp) (xs ys : List V) (S : Addr) (ts : List Addr) : Prop :=
  (∀ b o, H b = some o → H' b = some o) ∧ H S = none ∧ (∀ t ∈ ts, H t = none) ∧ ts.Nodup ∧ S ∉ ts ∧ ts.length = xs.length ∧ H' S = some (.lst (ts.map V.ref)) ∧ ∀ (j : Nat) (t : Addr), ts[j]? = some t → ∃ x y, xs[j]? = some x ∧ ys[j]? = some y ∧ H' t = some (.tup [x, y])
theorem zip_laid {X : Cx} {pins : List (Addr × Obj)} {σ : L2.St} {H : Hp} {s : Shared} {h' : Heap} {tk c : Nat} {acc : Array Value} {ts ch : List Addr} {xs ys : List V} {us ws : List Value} {S : Addr} (I : Inv X pins σ H s) (k : ∀ b o, b ∉ ch → s.heap.get? b = some o → h'.get? b = some o) (hf : ∀ b ∈ ch, FpOk X pins H b)
    (rx : Vals xs us) (ry : Vals ys ws) (hxy : xs.length = ys.length) (hz : xs.length ≤ sizeLine) (hS : s.heap.objs.size ≤ S) (hL : h'.get? S = some { cls := .type "list", dict := none, data := .seq acc c, slots := #[] }) (hl : ts.length = us.length) (Zt : ZTup us.toArray ws.toArray S h' ts) (hacc : acc.toList = ts.map Value.ref) :
    ∃ H' : Hp, NewTups H H' xs ys S ts ∧ Inv X pins σ H' { s with heap := h', toks := tk } := by
  have lx := rx.length
  have ly := ry.length
  have nd : ts.Nodup := List.Pairwise.imp (fun {a b} (h : a < b) => Nat.ne_of_lt h) Zt.up
  have nS : S ∉ ts := fun y => Nat.lt_irrefl _ (Zt.far _ y)
  have fresh : ∀ t ∈ ts, H t = none := fun t ht => I.hok.fresh (Nat.le_trans hS (Nat.le_of_lt (Zt.far t ht)))
  have freshS : H S = none := I.hok.fresh hS
  obtain ⟨G, hG⟩ : ∃ G, G = putZ (upd H S (.lst (ts.map V.ref))) ts (xs.zip ys) := ⟨_, rfl⟩
  have off : ∀ b, b ∉ ts → b ≠ S → G b = H b := fun b h1 h2 => by rw [hG, putZ_off h1, upd_ne h2]
  have keep : ∀ b o, H b = some o → G b = some o := fun b o e => by
    rw [off b (fun y => by rw [fresh b y] at e; cases e) (fun y => by rw [y, freshS] at e; cases e)]
    exact e
  have gS : G S = some (.lst (ts.map V.ref)) := by rw [hG, putZ_off nS, upd_same]
  have gT : ∀ (j : Nat) (t : Addr), ts[j]? = some t → ∃ x y, xs[j]? = some x ∧ ys[j]? = some y ∧ G t = some (.tup [x, y]) := fun j t hj => by
    have hlt := (List.getElem?_eq_some_iff.mp hj).1
    have e1 : xs[j]? = some (xs[j]'(by omega)) := List.getElem?_eq_getElem (by omega)
    have e2 : ys[j]? = some (ys[j]'(by omega)) := List.getElem?_eq_getElem (by omega)
    refine ⟨_, _, e1, e2, ?_⟩
    rw [hG]
    exact putZ_get (l := (xs[j]'(by omega), ys[j]'(by omega))) nd hj (by rw [List.getElem?_zip_eq_some]; exact ⟨e1, e2⟩)
  have low : ∀ b o, s.heap.get? b = some o → b ∉ ts ∧ b ≠ S := fun b o e => ⟨fun y => absurd (Heap.lt_size e) (Nat.not_lt.mpr (Nat.le_trans hS (Nat.le_of_lt (Zt.far b y)))), Nat.ne_of_lt (Nat.lt_of_lt_of_le (Heap.lt_size e) hS)⟩
  refine ⟨G, ⟨keep, freshS, fresh, nd, nS, by omega, gS, gT⟩, ?_⟩
  have nit : ∀ b u, H b = some u → b ∉ ch := fun b u e y => by
    have w := (hf b y).1
    rw [w] at e
    cases e
  refine I.step (g' := s.gens) (d' := s.drawn) (ch := ch) (fun b hb => ⟨(hf b hb).2.2.2.1, (hf b hb).2.1, (hf b hb).2.2.2.2.1, (hf b hb).2.2.2.2.2⟩) (fun b o _ _ hc e _ => k b o hc e) (fun b o _ _ hc e _ => ⟨o.slots, k b o hc e⟩)
    (fun b o _ e n => ?_) (fun b o hc e => ⟨o, k b o hc e⟩) (fun b xs e => keep b _ e) (fun b o u e => keep b _ e) (fun b ps e => ⟨#[], by rw [keep b _ e]; simp⟩) (fun m hm => ?_) (fun b u e => ?_) I.bare
  · obtain ⟨y1, y2⟩ := low b o e
    rw [off b y1 y2]
    exact n
  · obtain ⟨o, es, ep, ho, r⟩ := hm
    exact ⟨o, es, ep, k _ o (fun y => (hf _ y).2.1 rfl) ho, r⟩
  · by_cases hb : b ∈ ts
    · obtain ⟨j, hj⟩ := List.mem_iff_getElem?.mp hb
      obtain ⟨x, y, e1, e2, e3⟩ := gT j b hj
      rw [e3] at e
      cases e
      obtain ⟨f, g, f1, f2, f3⟩ := Zt.has j b hj
      obtain ⟨f', h1, r1⟩ := rx.get e1
      obtain ⟨g', h2, r2⟩ := ry.get e2
      have q1 : f = f' := by rw [List.getElem?_toArray, h1] at f1; exact (Option.some.inj f1).symm
      have q2 : g = g' := by rw [List.getElem?_toArray, h2] at f2; exact (Option.some.inj f2).symm
      subst q1 q2
      exact ⟨by show 2 ≤ sizeLine; decide, [f, g], .cons r1 (.cons r2 .nil), ⟨_, f3, rfl, _, rfl⟩⟩
    · by_cases hb2 : b = S
      · rw [hb2] at e ⊢
        rw [gS] at e
        cases e
        refine ⟨by rw [List.length_map]; omega, acc.toList, c, by rw [hacc]; exact LiI.vals_refs ts, ?_⟩
        rw [Array.toArray_toList]
        exact hL
      · rw [off b hb hb2] at e
        refine (I.hok b u e).stay (fun c v hc q => k c v ?_ q) (fun d y => keep d _ y) fun d xs y => keep d _ y
        rcases hc with y | y
        · rw [y]; exact nit b u e
        · exact nit c _ y
def tListZip (K : PySem.W.Frag) (ta : TA) : TE := fun σ H Q => ta σ H fun vs H1 => ∃ (a b : Addr) (xs ys : List V), vs = [.ref a, .ref b] ∧ SqL K H1 a xs ∧ SqL K H1 b ys ∧ xs.length = ys.length ∧ ∀ (H' : Hp) (S : Addr) (ts : List Addr), NewTups H1 H' xs ys S ts → Q (.ref S) H'
section
variable {X : Cx} {e e2 : Expr} {ta : TA} {p p2 pos pos2 : Pos}
theorem pe_listZip (hc : X.calm = true) (hg : Gl X "list") (hm : X.mg "list" = none) (hg2 : Gl X "zip") (hm2 : X.mg "zip" = none) (ha : PA X [e, e2] ta)
    (hse : starEach [Expr.Call (.Name "zip" p2) [e, e2] [] pos2] X.env = [(false, eval (Expr.Call (.Name "zip" p2) [e, e2] [] pos2) X.env)] := by rfl)
    (hs : starEach [e, e2] X.env = (false, eval e X.env) :: starEach [e2] X.env := by rfl) (hpl : (backTo pos2 (starEach [e2] X.env)).any (·.1) = false := by rfl) :
    PE X (.Call (.Name "list" p) [.Call (.Name "zip" p2) [e, e2] [] pos2] [] pos) (tListZip X.K ta) := by
  refine ⟨fun pins s σ H Q I h => ?_⟩
  refine wpAny_Call_Name_kw (ld_blt I hg hm boot_list ?_ (by first | decide +kernel | decide) (by first | decide +kernel | decide))
  rw [hse]
  refine PySem.callWith_type1 (Call_ (ld_blt I hg2 hm2 PyProof.Rows.boot_zip (PyProof.Rows.callWith_type1 (thn (ha.run pos2 pins s σ H _ I h) fun us s1 q1 => ?_) hs hpl)))
  obtain ⟨vs, H1, I1, r1, a, b, xs, ys, ev, hqx, hqy, hxy, q⟩ := q1
  subst ev
  cases r1 with
  | cons r rr =>
    cases rr with
    | cons r' rr =>
      cases rr
      cases r
      cases r'
      obtain ⟨us, rv, p1, zx⟩ := I1.list hqx
      obtain ⟨ws, rv2, p2, zy⟩ := I1.list hqy
      have la : a < s1.heap.objs.size := p1.lt
      have lb : b < s1.heap.objs.size := p2.lt
      have l1 := rv.length
      have l2 := rv2.length
      refine call_zip_2 p1.isList p2.isList fun h' hz hTI hTO h1 h2 hsz hk => ?_
      have I2 : Inv X pins σ H1 { s1 with heap := h' } := I1.kept (t' := s1.toks) hk
      have at' : h'.objs.size = s1.heap.objs.size + 5 := hsz
      refine zip_call (I2.ok.hd hc) (PySem.W.ktu_apart s1.heap.objs.size a b la lb) hz hTI ⟨_, _, hTO⟩ h1 h2 (p1.isList.at fun o e => hk a o e) (p2.isList.at fun o e => hk b o e) (by rw [List.size_toArray]; omega) (by rw [List.size_toArray, List.size_toArray]; omega) fun h3 tk acc c ts hk3 hL hl Zt hacc => ?_
      have old : ∀ c ∈ [s1.heap.objs.size + 4, s1.heap.objs.size + 3, s1.heap.objs.size, s1.heap.objs.size + 1], FpOk X pins H1 c := fun c hc => by
        have hle : s1.heap.objs.size ≤ c := by
          simp only [List.mem_cons, List.not_mem_nil, or_false] at hc
          rcases hc with y | y | y | y <;> rw [y] <;> first | exact Nat.le_add_right _ _ | exact Nat.le_refl _
        exact I1.fpOk hle (I1.hok.fresh hle)
      obtain ⟨H', nt, J⟩ := zip_laid (tk := tk) I2 (ch := [s1.heap.objs.size + 4, s1.heap.objs.size + 3, s1.heap.objs.size, s1.heap.objs.size + 1]) (fun b o hb e => hk3 b o (fun y => hb (by simp [y])) (fun y => hb (by simp [y])) (fun y => hb (by simp [y])) (fun y => hb (by simp [y])) e) old rv rv2 hxy (by omega) (Nat.le_refl _) hL (by rw [hl, List.size_toArray]) Zt hacc
      exact ⟨.ref _, H', J, rfl, q H' _ ts nt⟩
end
end MA

set_option maxRecDepth 100000
set_option maxHeartbeats 2000000
namespace MA
open PySem PySem.Spec PyProof.Rows L2
section
variable {K : PySem.W.Frag} {g : Addr} {σ : L2.St} {B H : Hp} {m : Nat}
/-! ## anything in a drawn sequence -/
theorem vpairsG {B : Hp} : ∀ {ys : List V} {bs : List PyData}, DqAll K B ys bs → ∃ ps : List (V × PyData), ps.map (·.1) = ys ∧ ps.map (·.2) = bs ∧ ∀ x ∈ ps, Dq K B x.1 x.2
  | ys, [], h => by
    cases h
    exact ⟨[], rfl, rfl, fun x hx => by cases hx⟩
  | ys, b :: bs, h => by
    cases h with
    | @cons v _ vs _ h1 h2 =>
      obtain ⟨ps, e1, e2, h3⟩ := vpairsG h2
      exact ⟨(v, b) :: ps, by rw [List.map_cons, e1], by rw [List.map_cons, e2], fun x hx => (List.mem_cons.mp hx).elim (fun e => e ▸ h1) (h3 x)⟩
theorem dq_pairsG {B : Hp} : ∀ {ps : List (V × PyData)}, (∀ x ∈ ps, Dq K B x.1 x.2) → DqAll K B (ps.map (·.1)) (ps.map (·.2))
  | [], _ => .nil
  | x :: ps, h => .cons (h x (List.mem_cons_self ..)) (dq_pairsG fun y hy => h y (List.mem_cons_of_mem _ hy))
theorem w_popsG {p : Addr} {tn : TA} {j ia ib : Nat} {vs : List Nat} {xs : List (V × PyData)} {n : Int} {Q : VK} (hta : EvA K tn σ B H [.int n]) (e : Ex B H) (hw0 : Wl g m B H) (hp : B p = none) (hpl : H p = some (.lst (xs.map (·.1)))) (hpg : p ≠ g)
    (hxs : ∀ x ∈ xs, Dq K B x.1 x.2)
    (hw : ∀ x, wipe ((wipe σ vs).set j (some x)) vs = wipe σ vs) (ha : ∀ x, ((wipe σ vs).set j (some x))[ia]? = some (some (.ref p))) (hbb : ∀ x, ((wipe σ vs).set j (some x))[ib]? = some (some (.ref g)))
    (hn0 : 0 ≤ n) (hn : n ≤ xs.length) (hx : xs.length ≤ 1000) (hm : m + n.toNat ≤ 1000000)
    (q : ∀ (acc rest : List (V × PyData)) (v : V) B' H', (acc ++ rest).Perm xs → (acc.length : Int) = n → Le [p, g] B H B' H' → Wl g (m + n.toNat) B' H' → Dq K B' v (.list (acc.map (·.2))) → Q v H') :
    tLc (iRng1 tn) (gName j) tYes (tBM K "list" rPopAt (tVar ia) (tCons (tCall (PailS K) [] E0 (tCons (tVar ib) (tCons (tCB (rLenA K) (tCons (tVar ia) tNil)) tNil))) tNil)) vs σ H Q := by
  refine hta B H (Le.refl e) _ fun us B1 H1 l1 hus => ?_
  obtain ⟨u, rfl, hu⟩ := dq1 hus
  cases hu
  refine ⟨n, rfl, by omega, by omega, fun D hD => ?_⟩
  have hb1 := hw0.pure l1
  have hp1 : B1 p = none := l1.own hpl hp
  have hpl1 := l1.k p _ (by simp) hpl
  have hDg := hb1.ne hD
  have hDp : D ≠ p := fun z => by rw [z, hpl1] at hD; cases hD
  have hDb := none_of l1.h hD
  have hsl : 1000 < sizeLine := by rw [sizeLine_eq]; decide
  refine lc_range (lo := 0) (n := n.toNat) (fun i Hi => ∃ (Bi : Hp) (acc rest : List (V × PyData)), Le [D, p, g] B1 H1 Bi Hi ∧ Wl g (m + i) Bi Hi ∧ Bi p = none ∧ Hi p = some (.lst (rest.map (·.1))) ∧ Bi D = none ∧ Hi D = some (.lst (acc.map (·.1))) ∧ (acc ++ rest).Perm xs ∧ acc.length = i) ?_ ?_ ?_
  · exact ⟨B1, [], xs, Le.made l1.h hD, hb1.made hD, hp1, by rw [upd_ne (Ne.symm hDp)]; exact hpl1, hDb, upd_same, .refl _, rfl⟩
  · rintro i Hi hi ⟨Bi, acc, rest, li, bi, pi, pl, di, dl, pm, ln⟩
    have hlen := pm.length_eq
    rw [List.length_append] at hlen
    refine ⟨hw _, yes_i ?_⟩
    rw [if_pos rfl]
    refine ⟨.ref p, ha _, .inl ⟨rfl, _, .inl (.inl pl)⟩, ?_⟩
    refine (ew_pailC (K := K) (g := g) (E := E0) (σ := (wipe σ vs).set j (some (.int (0 + (i : Nat))))) (B := Bi) (H := Hi) (i := ib) (te := tCB (rLenA K) (tCons (tVar ia) tNil)) (n := rest.length) (hbb _) (fun B2 H2 l2 B3 H3 l3 Q' q' => ?_) (by omega) (by omega)) (m + i) Bi Hi (by omega) (Le.refl li.h) bi _ fun d v B2 H2 r l2 w2 hv => ?_
    · refine ⟨.ref p, ha _, p, rest.map (·.1), rfl, .inl (.inl (.inl (l3.k p _ (by simp) (l2.k p _ (by simp [hpg]) pl)))), ?_⟩
      rw [List.length_map]
      exact q' _ B3 H3 (Le.refl l3.h) (.int _)
    obtain ⟨r, rfl, r0, r1⟩ := r
    cases hv
    have pl2 := l2.k p _ (by simp [hpg]) pl
    have p2 := l2.own pl pi
    have dl2 := l2.k D _ (by simp [hDg]) dl
    have d2 := l2.own dl di
    have hlt : r.toNat < rest.length := by omega
    have hg : rest[r.toNat]? = some rest[r.toNat] := List.getElem?_eq_getElem hlt
    refine ⟨p, rest.map (·.1), r, r.toNat, rest[r.toNat].1, rfl, rfl, pl2, by omega, by omega, ?_, by rw [List.getElem?_map, hg]; rfl, ?_⟩
    · rw [List.length_map]
      exact idx_nat r0 r1
    rw [erase_mapM]
    have l3 : Le [D, p, g] B2 H2 B2 (upd H2 p (.lst ((rest.eraseIdx r.toNat).map (·.1)))) := Le.put l2.h p2 (by simp)
    have dl3 : (upd H2 p (.lst ((rest.eraseIdx r.toNat).map (·.1)))) D = some (.lst (acc.map (·.1))) := by rw [upd_ne hDp]; exact dl2
    refine ⟨acc.map (·.1), dl3, by rw [List.length_map]; omega, B2, acc ++ [rest[r.toNat]], rest.eraseIdx r.toNat, ?_, ?_, p2, ?_, d2, ?_, ?_, by simp [ln]⟩
    · exact ((li.trans (l2.wk (by simp))).trans l3).trans (Le.put l3.h d2 (by simp))
    · exact ((w2.put hpg).put hDg).mono (by omega)
    · rw [upd_ne (Ne.symm hDp)]; exact upd_same
    · rw [upd_same, List.map_append]; rfl
    · rw [List.append_assoc]
      have pe : (rest[r.toNat] :: rest.eraseIdx r.toNat).Perm rest := erase_permM rest r.toNat _ hg
      exact (List.Perm.append_left acc pe).trans pm
  · rintro Hi ⟨Bi, acc, rest, li, bi, pi, pl, di, dl, pm, ln⟩
    have lg := (li.give hD di dl).local hD
    have lb := l1.b.trans lg.b
    exact q acc rest (.ref D) _ Hi pm (by omega) (l1.any.trans lg) (bi.give hDg) (.lst upd_same (dq_pairsG fun x hx => (hxs x (pm.mem_iff.mp (List.mem_append_left _ hx))).mono lb))
end
theorem Le.adds {B H H' : Hp} {as : List Addr} (e : Ex B H) (hk : ∀ b o, H b = some o → H' b = some o) (hn : ∀ a ∈ as, H a = none) : Le [] B H (fun b => if b ∈ as then H' b else B b) H' := by
  refine ⟨fun a o h => ?_, fun a o h => ?_, fun a o _ h => hk a o h, fun a h => ?_, fun a h1 h2 => ?_⟩
  · show (if a ∈ as then H' a else B a) = _
    rw [if_neg fun z => ?_]
    · exact h
    · have := e a o h
      rw [hn a z] at this
      cases this
  · split at h
    · exact h
    · exact hk a o (e a o h)
  · cases z : H a with
    | none => exact absurd z h
    | some o => rw [hk a o z]; simp
  · split at h2
    · rename_i z; exact hn a z
    · exact absurd h1 h2
theorem dqall_of {K : PySem.W.Frag} {H : Hp} : ∀ {vs : List V} {ds : List PyData}, vs.length = ds.length → (∀ (j : Nat) v d, vs[j]? = some v → ds[j]? = some d → Dq K H v d) → DqAll K H vs ds
  | [], [], _, _ => .nil
  | [], _ :: _, h, _ => by cases h
  | _ :: _, [], h, _ => by cases h
  | v :: vs, d :: ds, hl, h => .cons (h 0 v d rfl rfl) (dqall_of (by simpa using hl) fun j v d h1 h2 => h (j + 1) v d (by simpa using h1) (by simpa using h2))
section
variable {K : PySem.W.Frag} {g : Addr} {σ : L2.St} {B H : Hp} {m : Nat}
abbrev pairI2 (e : Int × Int) : PyData := .tuple [.int e.1, .int e.2]
/-- list(zip(xs, ys)), the second one a list of ours -/
theorem ev_listZip {i j : Nat} {va : V} {p : Addr} {xs ys : List Int} (hi : σ[i]? = some (some va)) (hx : Dq K B va (.list (xs.map PyData.int))) (hj : σ[j]? = some (some (.ref p))) (hp : H p = some (.lst (ys.map V.int))) (hl : xs.length = ys.length) :
    Ev K (tListZip K (tCons (tVar i) (tCons (tVar j) tNil))) σ B H (.list ((xs.zip ys).map pairI2)) := fun B1 H1 l Q q => by
  have hx1 := hx.mono l.b
  cases hx1 with
  | lst hs hq =>
    rename_i a zs
    cases ofInts hq
    refine ⟨.ref a, hi, .ref p, hj, a, p, xs.map V.int, ys.map V.int, rfl, .inl (.inl (l.h _ _ hs)), .inl (.inl (l.k p _ (by simp) hp)), by rw [List.length_map, List.length_map, hl], fun H' S ts nt => ?_⟩
    obtain ⟨n1, n2, n3, n4, n5, n6, n7, n8⟩ := nt
    rw [List.length_map] at n6
    refine q (.ref S) _ H' (Le.adds (as := S :: ts) l.h n1 fun a ha => (List.mem_cons.mp ha).elim (fun z => z ▸ n2) (n3 a)) (.lst (by show (if S ∈ S :: ts then H' S else _) = _; rw [if_pos (List.mem_cons_self ..)]; exact n7) (dqall_of (by rw [List.length_map, List.length_map, List.length_zip]; omega) fun j v d h1 h2 => ?_))
    rw [List.getElem?_map] at h1 h2
    obtain ⟨t, ht, rfl⟩ := Option.map_eq_some_iff.mp h1
    obtain ⟨⟨x, y⟩, hxy, rfl⟩ := Option.map_eq_some_iff.mp h2
    obtain ⟨u, v, e1, e2, e3⟩ := n8 j t ht
    obtain ⟨f1, f2⟩ := List.getElem?_zip_eq_some.mp hxy
    rw [List.getElem?_map, f1] at e1
    rw [List.getElem?_map, f2] at e2
    cases e1
    cases e2
    exact .tup (.inl (.inl (by show (if t ∈ S :: ts then H' t else _) = _; rw [if_pos (List.mem_cons_of_mem _ (List.mem_of_getElem? ht))]; exact e3))) (.cons (.int x) (.cons (.int y) .nil))
/-- a list of ours of drawn ints: hs = [.. for n in a list] -/
theorem q_lcOwnI {tl te : TE} {i j c : Nat} {vs : List Nat} {xs : List Int} {P : Int → Prop} {D' : Ends} {tz : TS} (hl : Ev K tl σ B H (.list (xs.map PyData.int))) (e : Ex B H) (w : Wl g m B H) (hm : m + c * xs.length ≤ 1000000) (hx : xs.length ≤ 1000)
    (he : ∀ n ∈ xs, ∀ B1 H1, Le [g] B H B1 H1 → Ew K g c te ((wipe σ vs).set j (some (.int n))) B1 H1 (RI P)) (hw : ∀ y, wipe ((wipe σ vs).set j (some y)) vs = wipe σ vs := by intro _; rfl)
    (q : ∀ (p : Addr) (ys : List Int) B' H', Le [g] B H B' H' → H p = none → B' p = none → H' p = some (.lst (ys.map V.int)) → ys.length = xs.length → (∀ y ∈ ys, P y) → Wl g (m + c * xs.length) B' H' → tz D' (σ.set i (some (.ref p))) H') :
    tSeq (tAsg (tLc (iList K tl) (gName j) tYes te vs) (gName i)) tz D' σ H := by
  refine hl B H (Le.refl e) _ fun v B1 H1 l1 hv => ?_
  cases hv with
  | lst hs hq =>
    rename_i a zs
    cases ofInts hq
    refine ⟨a, rfl, ⟨_, .inl (.inl (l1.h _ _ hs))⟩, fun D hD => ?_⟩
    have w1 := w.pure l1
    have hDb := none_of l1.h hD
    have hDg := w1.ne hD
    have hsl : 1000 < sizeLine := by rw [sizeLine_eq]; decide
    refine lc_list (xs := xs.map V.int) (fun t Hi => ∃ (Bi : Hp) (ys : List Int), Le [D, g] B1 H1 Bi Hi ∧ Wl g (m + c * t) Bi Hi ∧ Bi D = none ∧ Hi D = some (.lst (List.map V.int ys)) ∧ ys.length = t ∧ ∀ y ∈ ys, P y) ⟨B1, [], Le.made l1.h hD, w1.made hD, hDb, upd_same, rfl, by simp⟩ (fun t Hi _ p => ?_) (fun t y Hi ht p => ⟨hw _, yes_i ?_⟩) (fun Hi p => ?_)
    · obtain ⟨Bi, ys, le, _⟩ := p
      exact .inl (.inl (le.h _ _ (le.b _ _ hs)))
    · obtain ⟨Bi, ys, le, wi, bi, hi, yl, yp⟩ := p
      rw [List.getElem?_map] at ht
      obtain ⟨n, hn, rfl⟩ := Option.map_eq_some_iff.mp ht
      have tlt := (List.getElem?_eq_some_iff.mp hn).1
      rw [if_pos rfl]
      have hc : c * t + c ≤ c * xs.length := by rw [← Nat.mul_succ]; exact Nat.mul_le_mul_left c tlt
      have lD : Le [g] B H Bi Hi := l1.any.trans (le.local hD)
      refine he n (List.mem_of_getElem? hn) Bi Hi lD (m + c * t) Bi Hi (by omega) (Le.refl le.h) wi _ fun d v B2 H2 r l2 w2 hv => ?_
      obtain ⟨y, rfl, hy⟩ := r
      cases hv
      have d2 := l2.k D _ (by simp [hDg]) hi
      have b2 := l2.own hi bi
      refine ⟨_, d2, by rw [List.length_map]; omega, B2, ys ++ [y], ?_, ?_, b2, by rw [upd_same, List.map_append]; rfl, by rw [List.length_append, yl]; rfl, fun z hz => ?_⟩
      · exact (le.trans (l2.wk (by simp))).trans (Le.put l2.h b2 (by simp))
      · exact (w2.put hDg).mono (by rw [Nat.mul_succ]; omega)
      · rcases List.mem_append.mp hz with z1 | z1
        · exact yp z z1
        · rw [List.mem_singleton.mp z1]; exact hy
    · obtain ⟨Bi, ys, le, wi, bi, hi, yl, yp⟩ := p
      rw [List.length_map] at yl wi
      exact q D ys Bi Hi (l1.any.trans (le.local hD)) (l1.back hD) bi hi yl yp wi
theorem SW.pureM {p : Addr} {ns : List Int} {rows : List Addr} {mm : Int → List Int} {M : List Addr} {B' H' : Hp} (x : SW K p ns rows mm B H) (l : Le M B H B' H') (hp : p ∉ M) (hr : ∀ r ∈ rows, r ∉ M) : SW K p ns rows mm B' H' :=
  ⟨l.own x.has x.own, l.k p _ hp x.has, x.len, x.nd, x.rnd, x.out, fun t n r h1 h2 => l.k r _ (hr r (List.mem_of_getElem? h2)) (x.row t n r h1 h2), fun r hr => by
    obtain ⟨t, ht⟩ := List.getElem?_of_mem hr
    obtain ⟨n, hn⟩ : ∃ n, ns[t]? = some n := ⟨_, List.getElem?_eq_getElem (by have := (List.getElem?_eq_some_iff.mp ht).1; have := x.len; omega)⟩
    exact l.own (x.row t n r hn ht) (x.free r hr)⟩
/-- dict(a list of pairs): a dict of ours -/
theorem od_pairs {te : TE} {ns : List Int} {F : Int → PyData} {Q : VK} (h : Ev K te σ B H (.list (ns.map fun n => .tuple [.int n, F n]))) (e : Ex B H) (hn : ns.Nodup) (q : ∀ p B' H', Le [] B H B' H' → H p = none → OD K p ns F B' H' → Q (.ref p) H') :
    tCB (fun xs H Q => ∃ (a : Addr) (ps : List Addr) (kvs : List (Key × V)), xs = [.ref a] ∧ SqL K H a (ps.map V.ref) ∧ Paired (fun p kv => SqT K H p [kV kv.1, kv.2]) ps kvs ∧ ∀ p, H p = none → Q (.ref p) (upd H p (.dK (mergeK [] kvs)))) (tCons te tNil) σ H Q := by
  refine h B H (Le.refl e) _ fun u B2 H2 l2 hu2 => ?_
  cases hu2 with
  | lst hs2 hq2 =>
    rename_i a2 xs2
    obtain ⟨ps, ys, e1, e2, e3, e4⟩ := pairs_of (F := F) (ns := ns) hq2
    subst e1
    have e4' : Paired (fun p kv => SqT K H2 p [kV kv.1, kv.2]) ps (kvsOf ns ys) := by
      have : ∀ {ps : List Addr} {kvs : List (Key × V)}, Paired (fun p kv => SqT K B2 p [kV kv.1, kv.2]) ps kvs → Paired (fun p kv => SqT K H2 p [kV kv.1, kv.2]) ps kvs := by
        intro ps kvs h
        induction h with
        | nil => exact .nil
        | cons h _ ih => exact .cons (Evl.ex_t l2.h h) ih
      exact this e4
    refine ⟨a2, ps, kvsOf ns ys, rfl, .inl (.inl (l2.h _ _ hs2)), e4', fun z hzn => ?_⟩
    rw [merge_new hn (fun n hn => rfl) e2, List.nil_append]
    exact q z B2 _ (l2.trans (Le.made l2.h hzn)) (l2.back hzn) ⟨none_of l2.h hzn, hn, ys, e2, upd_same, e3⟩
/-- over what was drawn: dict([.. for .. in ..]) -/
theorem w_srcC {tl : TE} {rr : List V → Hp → VK → Prop} {gg gn : TG} {tt : TT} {te : TE} {vs : List Nat} {c : Nat} {D' : Ends} {tz : TS} {R : PyData → Prop} (hl : Ew K g c tl σ B H R) (hm : m + c ≤ 1000000) (e : Ex B H) (w : Wl g m B H)
    (q : ∀ d v B' H', R d → Le [g] B H B' H' → Wl g (m + c) B' H' → Dq K B' v d → tSeq (tAsg (tCB rr (tCons (tLc (iList K (fun _ H Q => Q v H)) gg tt te vs) tNil)) gn) tz D' σ H') : tSeq (tAsg (tCB rr (tCons (tLc (iList K tl) gg tt te vs) tNil)) gn) tz D' σ H := by
  refine hl m B H hm (Le.refl e) w _ fun d v B' H' hd l w' hv => ?_
  exact q d v B' H' hd l w' hv
end
/-- the pairs so far: the list D holds tuples of ours, each of a key and a list of ours -/
structure PWE (D : Addr) (ns : List Int) (ts rs : List Addr) (B H0 H : Hp) : Prop where
  has : H D = some (.lst (ts.map V.ref))
  tl : ts.length = ns.length
  rl : rs.length = ns.length
  tup : ∀ (t : Nat) (n : Int) (a r : Addr), ns[t]? = some n → ts[t]? = some a → rs[t]? = some r → H a = some (.tup [.int n, .ref r])
  row : ∀ (t : Nat) (n : Int) (r : Addr), ns[t]? = some n → rs[t]? = some r → H r = some (.lst [])
  rnd : rs.Nodup
  outT : D ∉ ts
  outR : D ∉ rs
  sep : ∀ r ∈ rs, r ∉ ts
  bT : ∀ a ∈ ts, B a = none
  bR : ∀ r ∈ rs, B r = none
  fR : ∀ r ∈ rs, H0 r = none
theorem PWE.nil {D : Addr} {B H0 H : Hp} (h : H D = some (.lst [])) : PWE D [] [] [] B H0 H :=
  ⟨h, rfl, rfl, fun t n a r h => by simp at h, fun t n r h => by simp at h, List.nodup_nil, by simp, by simp, by simp, by simp, by simp, by simp⟩
theorem PWE.add {D a r : Addr} {ns : List Int} {ts rs : List Addr} {B H0 H : Hp} {n : Int} (x : PWE D ns ts rs B H0 H) (hb : Ex B H) (hr : H r = none) (h0 : H0 r = none) (ha : upd H r (.lst []) a = none) :
    PWE D (ns ++ [n]) (ts ++ [a]) (rs ++ [r]) B H0 (upd (upd (upd H r (.lst [])) a (.tup [.int n, .ref r])) D (.lst ((ts.map V.ref) ++ [.ref a]))) := by
  have har : a ≠ r := fun z => by rw [z, upd_same] at ha; cases ha
  have haH : H a = none := by rw [upd_ne har] at ha; exact ha
  have hDr : r ≠ D := fun z => by rw [z, x.has] at hr; cases hr
  have hDa : a ≠ D := fun z => by rw [z, x.has] at haH; cases haH
  have tin : ∀ b ∈ ts, H b ≠ none := fun b hb => by
    obtain ⟨t, ht⟩ := List.getElem?_of_mem hb
    have hlt := (List.getElem?_eq_some_iff.mp ht).1
    obtain ⟨n1, hn⟩ : ∃ n1, ns[t]? = some n1 := ⟨_, List.getElem?_eq_getElem (by have := x.tl; omega)⟩
    obtain ⟨r1, hr1⟩ : ∃ r1, rs[t]? = some r1 := ⟨_, List.getElem?_eq_getElem (by have := x.tl; have := x.rl; omega)⟩
    rw [x.tup t _ b _ hn ht hr1]
    simp
  have rin : ∀ b ∈ rs, H b ≠ none := fun b hb => by
    obtain ⟨t, ht⟩ := List.getElem?_of_mem hb
    have hlt := (List.getElem?_eq_some_iff.mp ht).1
    obtain ⟨n1, hn⟩ : ∃ n1, ns[t]? = some n1 := ⟨_, List.getElem?_eq_getElem (by have := x.rl; omega)⟩
    rw [x.row t _ b hn ht]
    simp
  have art : a ∉ ts := fun h => tin a h haH
  have arr : a ∉ rs := fun h => rin a h haH
  have rrt : r ∉ ts := fun h => tin r h hr
  have rrr : r ∉ rs := fun h => rin r h hr
  have keep : ∀ b o, H b = some o → b ≠ D → upd (upd (upd H r (.lst [])) a (.tup [.int n, .ref r])) D (.lst ((ts.map V.ref) ++ [.ref a])) b = some o := fun b o hb hD => by
    rw [upd_ne hD, upd_ne (fun z => by rw [z, haH] at hb; cases hb), upd_ne (fun z => by rw [z, hr] at hb; cases hb)]
    exact hb
  have ap : ∀ {α : Type} {l : List α} {u y : α} {t : Nat}, (l ++ [u])[t]? = some y → (t < l.length ∧ l[t]? = some y) ∨ (t = l.length ∧ y = u) := fun {α l u y t} h => by
    by_cases z : t < l.length
    · rw [List.getElem?_append_left z] at h
      exact .inl ⟨z, h⟩
    · rw [List.getElem?_append_right (by omega)] at h
      have hlt := (List.getElem?_eq_some_iff.mp h).1
      have : t - l.length = 0 := by simp at hlt; omega
      rw [this] at h
      cases h
      exact .inr ⟨by omega, rfl⟩
  refine ⟨by rw [upd_same, List.map_append]; rfl, by rw [List.length_append, List.length_append, x.tl]; rfl, by rw [List.length_append, List.length_append, x.rl]; rfl, fun t k b s h1 h2 h3 => ?_, fun t k s h1 h2 => ?_, ?_, ?_, ?_, fun s hs => ?_, fun b hb' => ?_, fun s hs => ?_, fun s hs => ?_⟩
  · rcases ap h1 with ⟨z, h1⟩ | ⟨z, rfl⟩
    · have h2' := (ap h2).resolve_right (fun w => by have := x.tl; omega)
      have h3' := (ap h3).resolve_right (fun w => by have := x.rl; omega)
      exact keep b _ (x.tup t k b s h1 h2'.2 h3'.2) fun w => x.outT (w ▸ List.mem_of_getElem? h2'.2)
    · have h2' := (ap h2).resolve_left (fun w => by have := x.tl; omega)
      have h3' := (ap h3).resolve_left (fun w => by have := x.rl; omega)
      rw [h2'.2, h3'.2, upd_ne hDa, upd_same]
  · rcases ap h1 with ⟨z, h1⟩ | ⟨z, rfl⟩
    · have h2' := (ap h2).resolve_right (fun w => by have := x.rl; omega)
      exact keep s _ (x.row t k s h1 h2'.2) fun w => x.outR (w ▸ List.mem_of_getElem? h2'.2)
    · have h2' := (ap h2).resolve_left (fun w => by have := x.rl; omega)
      rw [h2'.2, upd_ne hDr, upd_ne (Ne.symm har), upd_same]
  · rw [List.nodup_append]
    exact ⟨x.rnd, by simp, fun s hs u hu z => rrr (by rw [List.mem_singleton.mp hu] at z; exact z ▸ hs)⟩
  · intro h
    rcases List.mem_append.mp h with h | h
    · exact x.outT h
    · exact hDa (List.mem_singleton.mp h).symm
  · intro h
    rcases List.mem_append.mp h with h | h
    · exact x.outR h
    · exact hDr (List.mem_singleton.mp h).symm
  · intro h
    rcases List.mem_append.mp hs with hs | hs <;> rcases List.mem_append.mp h with h | h
    · exact x.sep s hs h
    · exact arr (List.mem_singleton.mp h ▸ hs)
    · exact rrt (List.mem_singleton.mp hs ▸ h)
    · exact har ((List.mem_singleton.mp h).symm.trans (List.mem_singleton.mp hs))
  · rcases List.mem_append.mp hb' with h | h
    · exact x.bT b h
    · rw [List.mem_singleton.mp h]; exact none_of hb haH
  · rcases List.mem_append.mp hs with h | h
    · exact x.bR s h
    · rw [List.mem_singleton.mp h]; exact none_of hb hr
  · rcases List.mem_append.mp hs with h | h
    · exact x.fR s h
    · rw [List.mem_singleton.mp h]; exact h0
theorem pwe_paired {K : PySem.W.Frag} {H : Hp} : ∀ {ns : List Int} {ts rs : List Addr}, ts.length = ns.length → rs.length = ns.length → (∀ (t : Nat) (n : Int) (a r : Addr), ns[t]? = some n → ts[t]? = some a → rs[t]? = some r → H a = some (.tup [.int n, .ref r])) →
    Paired (fun p (kv : Key × V) => SqT K H p [kV kv.1, kv.2]) ts (kvsOf ns (rs.map V.ref))
  | [], [], [], _, _, _ => .nil
  | n :: ns, a :: ts, r :: rs, h1, h2, h => .cons (.inl (.inl (h 0 n a r rfl rfl rfl))) (pwe_paired (by simpa using h1) (by simpa using h2) fun t n' a' r' e1 e2 e3 => h (t + 1) n' a' r' e1 e2 e3)
section
variable {K : PySem.W.Frag} {σ : L2.St} {B H : Hp} {tl : TE}
theorem q_rowsE {ns : List Int} {i j : Nat} {vs : List Nat} {tz : TS} {D' : Ends} (hl : Ev K tl σ B H (.list (ns.map PyData.int))) (e : Ex B H) (hn : ns.Nodup) (hz : ns.length ≤ 1000)
    (hj : ∀ y, ((wipe σ vs).set j (some y))[j]? = some (some y) := by intro _; rfl) (hw : ∀ y, wipe ((wipe σ vs).set j (some y)) vs = wipe σ vs := by intro _; rfl)
    (q : ∀ p rows B' H', Le [] B H B' H' → H p = none → (∀ r ∈ rows, H r = none) → SW K p ns rows (fun n => []) B' H' → tz D' (σ.set i (some (.ref p))) H') :
    tSeq (tAsg (tCB (fun xs H Q => ∃ (a : Addr) (ps : List Addr) (kvs : List (Key × V)), xs = [.ref a] ∧ SqL K H a (ps.map V.ref) ∧ Paired (fun p kv => SqT K H p [kV kv.1, kv.2]) ps kvs ∧ ∀ p, H p = none → Q (.ref p) (upd H p (.dK (mergeK [] kvs))))
      (tCons (tLc (iList K tl) (gName j) tYes (tTup (tCons (tVar j) (tCons (tLst tNil) tNil))) vs) tNil)) (gName i)) tz D' σ H := by
  refine hl B H (Le.refl e) _ fun v B1 H1 l1 hv => ?_
  cases hv with
  | lst hs hq =>
    rename_i a ys
    cases ofInts hq
    refine ⟨a, rfl, ⟨_, .inl (.inl (l1.h _ _ hs))⟩, fun D hD => ?_⟩
    have hDb := none_of l1.h hD
    have hsl : 1000 < sizeLine := by rw [sizeLine_eq]; decide
    refine lc_list (xs := ns.map V.int) (fun t Hi => ∃ ts rs, Le [] B1 H1 B1 Hi ∧ PWE D (ns.take t) ts rs B1 H Hi) ⟨[], [], Le.made l1.h hD, PWE.nil upd_same⟩ (fun t Hi _ w => ?_) (fun t x Hi ht w => ?_) (fun Hi w => ?_)
    · obtain ⟨ts, rs, le, _⟩ := w
      exact .inl (.inl (le.h _ _ hs))
    · obtain ⟨ts, rs, le, x⟩ := w
      rw [List.getElem?_map] at ht
      obtain ⟨n, hnt, rfl⟩ := Option.map_eq_some_iff.mp ht
      refine ⟨hw _, yes_i ?_⟩
      rw [if_pos rfl]
      refine ⟨.int n, hj _, by show 0 ≤ sizeLine; omega, fun r hr => ⟨by show 2 ≤ sizeLine; omega, fun a2 ha2 => ⟨ts.map V.ref, ?_, ?_, ts ++ [a2], rs ++ [r], ?_, ?_⟩⟩⟩
      · have hDr : D ≠ r := fun z => by rw [← z, x.has] at hr; cases hr
        have hDa : D ≠ a2 := fun z => by rw [← z, upd_ne hDr, x.has] at ha2; cases ha2
        rw [upd_ne hDa, upd_ne hDr]
        exact x.has
      · have := x.tl
        rw [List.length_take] at this
        rw [List.length_map]
        omega
      · have la : Le [D] B1 H1 B1 (upd Hi r (.lst [])) := le.any.trans (Le.made le.h hr)
        have lb : Le [D] B1 H1 B1 (upd (upd Hi r (.lst [])) a2 (.tup [.int n, .ref r])) := la.trans (Le.made la.h ha2)
        exact (lb.trans (Le.put lb.h hDb (by simp))).local hD
      · have ntk : ns.take (t + 1) = ns.take t ++ [n] := by rw [List.take_add_one, hnt]; rfl
        rw [ntk]
        exact x.add le.h hr ((l1.trans le).back hr) ha2
    · obtain ⟨ts, rs, le, x⟩ := w
      rw [List.length_map, List.take_length] at x
      refine ⟨D, ts, kvsOf ns (rs.map V.ref), rfl, .inl (.inl x.has), pwe_paired x.tl x.rl x.tup, fun p hp => ?_⟩
      have mk : mergeK [] (kvsOf ns (rs.map V.ref)) = kvsOf ns (rs.map V.ref) := by
        have z := merge_new (acc := []) (ys := rs.map V.ref) hn (fun n _ => rfl) (by rw [List.length_map, x.rl])
        rw [z]
        rfl
      rw [mk]
      have lp : Le [] B H B1 (upd Hi p (.dK (kvsOf ns (rs.map V.ref)))) := (l1.trans le).trans (Le.made le.h hp)
      have rin : ∀ r ∈ rs, Hi r ≠ none := fun r hr => by
        obtain ⟨t, ht⟩ := List.getElem?_of_mem hr
        have hlt := (List.getElem?_eq_some_iff.mp ht).1
        obtain ⟨n1, hn1⟩ : ∃ n1, ns[t]? = some n1 := ⟨_, List.getElem?_eq_getElem (by have := x.rl; omega)⟩
        rw [x.row t _ r hn1 ht]
        simp
      have hpr : p ∉ rs := fun h => rin p h hp
      refine q p rs B1 _ lp ((l1.trans le).back hp) x.fR ⟨none_of le.h hp, upd_same, x.rl.symm, hn, x.rnd, hpr, fun t n r h1 h2 => ?_, x.bR⟩
      rw [upd_ne (fun z : r = p => hpr (z ▸ List.mem_of_getElem? h2))]
      exact x.row t n r h1 h2
end
end MA

set_option maxRecDepth 100000
set_option maxHeartbeats 8000000
namespace K34
open PySem PySem.Spec PyProof.Rows L2 MA
section
variable {P : Program} {w : World} {K : PySem.W.Frag} {mg : PySem.Str → Option Value} {base : Heap}
theorem at_nat {ns : List Int} {k : Int} (h0 : 0 ≤ k) (h1 : k < ns.length) : atI (ns.map V.int) k = some (.int (ns.getD k.toNat 0)) := by
  unfold atI ixN
  rw [List.length_map, if_pos h0, if_pos (by omega)]
  have h2 : k.toNat < ns.length := by omega
  simp [List.getD, h2]
/-- a jug is made -/
abbrev WellS (K : PySem.W.Frag) : Sp := fun vs H Q _ => ∃ (a : Addr) (ns : List Int) (k : Int), vs = [.ref a, .int k] ∧ SqL K H a (ns.map V.int) ∧ (0 ≤ k ∧ k < 1000) ∧ ∀ p x y, H p = none → (0 ≤ y ∧ y < 2 ^ 200) → Q (.ref p) (upd H p (.lst [.int x, .int y, .int 0]))
theorem ok_law_jug (D : Df K mg "_law_jug" s__law_jug ["script", "k"]) (z_max : mg "max" = none) (z_len : mg "len" = none) : Cl P w K mg base CX0 1 "_law_jug" ["script", "k"] (WellS K) :=
  Cl.of D sc__law_jug (fun vs H Q E h => by obtain ⟨a, ns, k, rfl, _⟩ := h; rfl) fun f cdv A outer s H vs Q E hr h => by
    obtain ⟨a, ns, k, rfl, hs, ⟨k0, k1⟩, q⟩ := h
    refine ⟨_, (pss_cons (ps_set (i := 2) sc__law_jug.nd rfl (.inl rfl) (pe_ifExp (pt_cmpR op_lt (pv 1) (pe_callB call_len_seq (by rfl) z_len PySem.boot_len (pa_cons (pv 0) pa_nil)) (nomark _)) (pe_ix ix_seq (pv 0) (pv 1) (fun _ _ => rfl)) pe_int)) (pss_one (ps_ret (pe_lst (pa_cons (pe_callB (call_max2 rfl) (by rfl) z_max (by decide +kernel) (pa_cons pe_int (pa_cons (pe_op op_sub (pv 2) (pe_op op_powW pe_int pe_int)) pa_nil))) (pa_cons (pe_op op_addA (pe_op op_mulA (pe_op op_mod (pv 2) (pe_op op_addA (pe_op op_powW pe_int pe_int) pe_int)) pe_int) (pv 1)) (pa_cons pe_int pa_nil))))))), ?_⟩
    refine ⟨.int k, rfl, .ref a, rfl, a, _, rfl, .inl hs, k, _, rfl, rfl, _, rfl, ?_⟩
    have p42 : (0 : Int) < 10 ^ (42 : Int).toNat + 63 := by decide
    have cont : ∀ c : Int, tRet (tLst (tCons (tCB rMax2 (tCons (tC (.int 0)) (tCons (tOp (rI0 fun i j => .int (i - j)) (tVar 2) (tOp (rI CPowW fun i j => .int (i ^ j.toNat)) (tC (.int 10)) (tC (.int 18)))) tNil)))
        (tCons (tOp (rAddA K) (tOp (rMulA K) (tOp (rI (fun _ j => 0 < j) fun i j => .int (i % j)) (tVar 2) (tOp (rAddA K) (tOp (rI CPowW fun i j => .int (i ^ j.toNat)) (tC (.int 10)) (tC (.int 42))) (tC (.int 63)))) (tC (.int 64))) (tVar 1)) (tCons (tC (.int 0)) tNil))))
        { nx := fun _ H' => Q .non H', rt := Q } [some (.ref a), some (.int k), some (.int c)] H := fun c => by
      have b0 := Int.emod_nonneg c (show (10 : Int) ^ (42 : Int).toNat + 63 ≠ 0 by omega)
      have b1 := Int.emod_lt_of_pos c p42
      have b2 : (10 : Int) ^ (42 : Int).toNat + 63 < 2 ^ 150 := by decide
      refine ⟨.int c, rfl, 10, 18, rfl, rfl, cpow (k := 4) (by decide) (by decide) (by decide), c, _, rfl, rfl, 0, _, rfl, ?_⟩
      refine ⟨.int c, rfl, 10, 42, rfl, rfl, cpow (k := 4) (by decide) (by decide) (by decide), .inl ⟨_, 63, rfl, rfl, c, _, rfl, rfl, p42, .inl ⟨_, 64, rfl, rfl, .inr ⟨by decide, by decide⟩, .int k, rfl, .inl ⟨_, k, rfl, rfl, by show 3 ≤ sizeLine; exact size_ok (by decide), fun p hp => ?_⟩⟩⟩⟩
      refine q p _ _ hp ⟨by omega, ?_⟩
      generalize c % ((10 : Int) ^ (42 : Int).toNat + 63) = z at *
      have b3 : z < 2 ^ 150 := Int.lt_trans b1 b2
      have b4 : (2 : Int) ^ 150 * 64 + 1000 < 2 ^ 160 := by decide
      have b5 : (2 : Int) ^ 160 < 2 ^ 200 := by decide
      omega
    refine ite_b (fun h => ?_) fun h => ?_
    · exact ⟨.ref a, rfl, .int k, rfl, .inl ⟨a, _, k, _, rfl, rfl, hs, at_nat k0 (by simpa using h), cont _⟩⟩
    · exact cont 0
theorem ok_law_drop (D : Df K mg "_law_drop" s__law_drop ["jug", "many"]) : Cl P w K mg base CX0 1 "_law_drop" ["jug", "many"] (PailS K) :=
  Cl.of D sc__law_drop (bw_len (n := 1) fun ds h => by obtain ⟨n, rfl, _⟩ := h; rfl) fun f cdv A outer s H vs Q E hr h => by
    obtain ⟨g, us, B, ds, m, rfl, e, ⟨hB, x, y, z, hg, ⟨y0, y1⟩, z0, z1⟩, hm, hq, ⟨n, rfl, n0, n1⟩, q⟩ := h
    obtain ⟨v, rfl, hv⟩ := dq1 hq
    cases hv
    refine ⟨_, (pss_cons (ps_if (pt_cmpR op_gt (pe_ix ix_seq (pv 0) pe_int (fun _ _ => rfl)) pe_int (nomark _)) (pss_cons (ps_set (i := 2) sc__law_drop.nd rfl (.inl rfl) (pe_op op_mod (pe_ix ix_seq (pv 0) pe_int (fun _ _ => rfl)) (pv 1))) (pss_cons (ps_asg (pe_op op_fdivW (pe_ix ix_seq (pv 0) pe_int (fun _ _ => rfl)) (pv 1)) (pg_sub (pv 0) pe_int set_list)) (pss_one (ps_ret (pv 2))))) pss_nil) (pss_cons (ps_asg (pe_op op_addA (pe_ix ix_seq (pv 0) pe_int (fun _ _ => rfl)) pe_int) (pg_sub (pv 0) pe_int set_list)) (pss_cons (ps_set (i := 3) sc__law_drop.nd rfl (.inl rfl) (pe_op op_mod (pe_op op_powW (pe_op op_addA (pe_ix ix_seq (pv 0) pe_int (fun _ _ => rfl)) (pe_op op_mulA pe_int (pe_ix ix_seq (pv 0) pe_int (fun _ _ => rfl)))) pe_int) (pe_op op_addA (pe_op op_powW pe_int pe_int) pe_int))) (pss_cons (ps_set (i := 3) sc__law_drop.nd rfl (.inl rfl) (pe_op op_mod (pe_op op_powW (pe_op op_addA (pv 3) (pe_op op_mulA pe_int (pe_ix ix_seq (pv 0) pe_int (fun _ _ => rfl)))) pe_int) (pe_op op_addA (pe_op op_powW pe_int pe_int) pe_int))) (pss_one (ps_ret (pe_op op_mod (pe_op op_fdivW (pv 3) pe_int) (pv 1)))))))), ?_⟩
    have hdiv : CDivW x n := wide_div (b := 300) n0 (by omega) (by decide) (by decide)
    refine ⟨.ref g, rfl, ix_own hg (v := .int x) rfl ⟨x, 0, rfl, rfl, decide (0 < x), rfl, ?_⟩⟩
    refine ite_b (fun hx => ?_) fun hx => ?_
    · refine ⟨.ref g, rfl, ix_own hg (v := .int x) rfl ⟨.int n, rfl, x, n, rfl, rfl, n0, ?_⟩⟩
      refine ⟨.ref g, rfl, ix_own hg (v := .int x) rfl ⟨.int n, rfl, x, n, rfl, rfl, hdiv, .ref g, rfl, g, _, 0, 0, rfl, rfl, hg, rfl, ?_⟩⟩
      refine ⟨.int (x % n), rfl, ?_⟩
      exact q (.int (x % n)) ⟨n, _, rfl, rfl, Int.emod_nonneg _ (by omega), Int.emod_lt_of_pos _ n0⟩ _ _ _ (Le.put e hB (by simp)) ⟨hB, x / n, y, z, upd_same, ⟨y0, y1⟩, z0, by omega⟩ (.int _)
    · have hb : ∀ u : Int, 0 ≤ u → u < 2 ^ 201 → CPowW u 3 := fun u h0 h1 => cpow (k := 201) (by omega) (by decide) (by decide)
      have m1 : (0 : Int) < 10 ^ (45 : Int).toNat + 9 := by decide
      have m2 : (0 : Int) < 10 ^ (43 : Int).toNat + 57 := by decide
      have m3 : (10 : Int) ^ (45 : Int).toNat + 9 < 2 ^ 199 := by decide
      have c0 : CMul 122949823 (z + 1) := .inl ⟨by decide, by decide⟩
      have c1 : CMul 49979687 (z + 1) := .inl ⟨by decide, by decide⟩
      refine ⟨.ref g, rfl, ix_own hg (v := .int z) rfl (.inl ⟨z, 1, rfl, rfl, .ref g, rfl, g, _, 2, 2, rfl, rfl, hg, rfl, ?_⟩)⟩
      have hg1 : upd H g (.lst [.int x, .int y, .int (z + 1)]) g = some (.lst [.int x, .int y, .int (z + 1)]) := upd_same
      have hp : (2 : Int) ^ 200 + 122949823 * 1000001 < 2 ^ 201 := by decide
      refine ⟨.ref g, rfl, ix_own hg1 (v := .int y) rfl ⟨.ref g, rfl, ix_own hg1 (v := .int (z + 1)) rfl (.inl ⟨122949823, z + 1, rfl, rfl, c0, .inl ⟨y, _, rfl, rfl, _, 3, rfl, rfl, hb _ (by omega) (by omega), ?_⟩⟩)⟩⟩
      refine ⟨10, 45, rfl, rfl, cpow (k := 4) (by decide) (by decide) (by decide), .inl ⟨_, 9, rfl, rfl, _, _, rfl, rfl, m1, ?_⟩⟩
      have e0 := Int.emod_nonneg ((y + 122949823 * (z + 1)) ^ (3 : Int).toNat) (show (10 : Int) ^ (45 : Int).toNat + 9 ≠ 0 by omega)
      have e1 := Int.emod_lt_of_pos ((y + 122949823 * (z + 1)) ^ (3 : Int).toNat) m1
      refine ⟨_, rfl, .ref g, rfl, ix_own hg1 (v := .int (z + 1)) rfl (.inl ⟨49979687, z + 1, rfl, rfl, c1, .inl ⟨_, _, rfl, rfl, _, 3, rfl, rfl, hb _ ?_ ?_, ?_⟩⟩)⟩
      · generalize (y + 122949823 * (z + 1)) ^ (3 : Int).toNat % ((10 : Int) ^ (45 : Int).toNat + 9) = t at *
        omega
      · generalize (y + 122949823 * (z + 1)) ^ (3 : Int).toNat % ((10 : Int) ^ (45 : Int).toNat + 9) = t at *
        have : t < 2 ^ 199 := Int.lt_trans e1 m3
        have hp2 : (2 : Int) ^ 199 + 49979687 * 1000001 < 2 ^ 201 := by decide
        omega
      refine ⟨10, 43, rfl, rfl, cpow (k := 4) (by decide) (by decide) (by decide), .inl ⟨_, 57, rfl, rfl, _, _, rfl, rfl, m2, ?_⟩⟩
      refine ⟨_, rfl, _, 327689, rfl, rfl, wide_div (b := 30) (by decide) (by decide) (by decide) (by decide), .int n, rfl, _, n, rfl, rfl, n0, ?_⟩
      exact q (.int _) ⟨n, _, rfl, rfl, Int.emod_nonneg _ (by omega), Int.emod_lt_of_pos _ n0⟩ _ _ _ (Le.put e hB (by simp)) ⟨hB, x, y, z + 1, upd_same, ⟨y0, y1⟩, by omega, by omega⟩ (.int _)
/-- things in a drawn sequence -/
abbrev MixS (K : PySem.W.Frag) : Sp := Bw K 60 (fun ds => ∃ xs : List PyData, ds = [.list xs] ∧ xs.length ≤ 60) fun ds d => ∃ xs ys : List PyData, ds = [.list xs] ∧ d = .list ys ∧ ys.Perm xs
theorem ok_law_stirred (D : Df K mg "_law_stirred" s__law_stirred ["jug", "items"]) (C__law_drop : Cl P w K mg base CX0 1 "_law_drop" ["jug", "many"] (PailS K)) (z_list : mg "list" = none) (z_range : mg "range" = none) (z_len : mg "len" = none) :
    Cl P w K mg base CX0 2 "_law_stirred" ["jug", "items"] (MixS K) :=
  Cl.of D sc__law_stirred (bw_len (n := 1) fun ds h => by obtain ⟨n, rfl, _⟩ := h; rfl) fun f cdv A outer s H vs Q E hr h => by
    obtain ⟨g, us, B, ds, m, rfl, e, hw, hm, hq, ⟨xs, rfl, x60⟩, q⟩ := h
    obtain ⟨v, rfl, hv⟩ := dq1 hq
    refine ⟨_, (pss_cons (ps_set (i := 2) sc__law_stirred.nd rfl (.inr rfl) (pe_callTy call_list_of (by rfl) z_list (by decide +kernel) (pa_cons (pv 1) pa_nil))) (pss_one (ps_ret (pe_lc (own := [("turn", 3)]) (tt := tYes) (te := (tBM K "list" rPopAt (tVar 2) (tCons (tCall _ [] E0 (tCons (tVar 0) (tCons (tCB (rLenA K) (tCons (tVar 2) tNil)) tNil))) tNil))) rfl sc__law_stirred.nd (pi_range1 (by rfl) z_range (pa_cons (pe_callB call_len_seq (by rfl) z_len PySem.boot_len (pa_cons (pv 2) pa_nil)) pa_nil)) (blkOk_by (N := N__law_stirred) (sc := defScope s__law_stirred) (by decide +kernel)) (fun _ _ _ _ _ => (pg_name (i := 3) sc__law_stirred.nd rfl (.inl rfl))) (fun _ _ _ _ _ => pts_nil) (fun _ _ _ _ _ => (pe_bm PySem.F.plainAttrs_list PySem.F.slot_list_pop PySem.F.type_list_pop mt_popAt (pv 2) (pa_cons (pe_callC C__law_drop (hr.mono (by decide)) (by rfl) pass0 (pa_cons (pv 0) (pa_cons (pe_callB call_len_seq (by rfl) z_len PySem.boot_len (pa_cons (pv 2) pa_nil)) pa_nil))) pa_nil))))))), ?_⟩
    have hv' := hv
    cases hv with
    | lst hs hxs =>
      rename_i a ys
      obtain ⟨ps, e1, e2, hps⟩ := vpairsG hxs
      subst e1
      have pl : ps.length = xs.length := by rw [← e2, List.length_map]
      refine q_asgR ⟨.ref a, rfl, a, _, rfl, .inl (.inl (.inl (e _ _ hs))), fun p hp => ?_⟩
      have hpb : B p = none := none_of e hp
      have l1 : Le [g] B H B (upd H p (.lst (ps.map (·.1)))) := Le.made e hp
      have hpg := hw.ne hp
      refine w_popsG (K := K) (n := xs.length) (xs := ps) (m := m) (σ := [some (.ref g), some (.ref a), some (.ref p), none]) (ea_cons (fun B2 H2 l2 Q q => ⟨.ref p, rfl, p, ps.map (·.1), rfl, .inl (.inl (.inl (l2.k p _ (by simp) upd_same))), by rw [List.length_map, pl]; exact q _ B2 H2 (Le.refl l2.h) (.int _)⟩) ea_nil) l1.h (hw.made hp) hpb upd_same hpg hps (fun _ => rfl) (fun _ => rfl) (fun _ => rfl) (by omega) (by omega) (by omega) (by omega) fun acc rest v B2 H2 pm ln l2 b2 hv => ?_
      have hr0 : rest = [] := by
        have := pm.length_eq
        rw [List.length_append] at this
        exact List.eq_nil_of_length_eq_zero (by omega)
      subst hr0
      rw [List.append_nil] at pm
      have pm2 : (acc.map (·.2)).Perm xs := by rw [← e2]; exact pm.map _
      exact q _ ⟨xs, _, rfl, rfl, pm2⟩ v B2 H2 (((Le.made e hp).trans l2).local hp) (b2.mono (by omega)) hv
theorem perm_ints {ys : List PyData} {xs : List Int} (h : ys.Perm (xs.map PyData.int)) : ∃ zs : List Int, ys = zs.map PyData.int ∧ zs.Perm xs := by
  have hy : ∀ y ∈ ys, ∃ k : Int, y = .int k := fun y hy => by
    obtain ⟨k, _, rfl⟩ := List.mem_map.mp (h.mem_iff.mp hy)
    exact ⟨k, rfl⟩
  refine ⟨ys.map fun y => match y with | .int k => k | _ => 0, ?_, ?_⟩
  · rw [List.map_map]
    refine (List.map_id ys).symm.trans (List.map_congr_left fun y hm => ?_)
    obtain ⟨k, rfl⟩ := hy y hm
    rfl
  · have := h.map (fun y => match y with | PyData.int k => k | _ => 0)
    rw [List.map_map] at this
    have e : xs.map ((fun y => match y with | PyData.int k => k | _ => 0) ∘ PyData.int) = xs := by
      refine (List.map_congr_left fun y hm => ?_).trans (List.map_id xs)
      rfl
    rw [e] at this
    exact this
end
end K34

set_option maxRecDepth 100000
set_option maxHeartbeats 8000000
namespace K34
open PySem PySem.Spec PyProof.Rows L2 MA
theorem command_is {wd : PySem.Str} {i j : Int} (hw : wd = "behind" ∨ wd = "before") (h1 : 0 ≤ i ∧ i < 60) (h2 : 0 ≤ j ∧ j < 60) (hne : i ≠ j) : isCommandD (.tuple [.str wd, .int i, .int j]) = true := by
  rcases hw with rfl | rfl <;> simp [isCommandD, isWord, isItemD, itemI, h1, h2, hne]
section
variable {P : Program} {w : World} {K : PySem.W.Frag} {mg : PySem.Str → Option Value} {base : Heap}
/-- a drawn script -/
abbrev ScrS (K : PySem.W.Frag) : Sp := Bw K 1100 (fun ds => ∃ (ss : List Int) (n : Int), ds = [.list (ss.map PyData.int), .int n] ∧ ss.Nodup ∧ 2 ≤ ss.length ∧ ss.length ≤ 60 ∧ (∀ k ∈ ss, 0 ≤ k ∧ k < 60) ∧ 1 ≤ n ∧ n ≤ 200)
  fun ds d => ∃ (ss : List Int) (n : Int) (cs : List PyData), ds = [.list (ss.map PyData.int), .int n] ∧ d = .tuple cs ∧ isScriptD (.tuple cs) = true ∧ ∀ c ∈ cs, GoodC ss c
theorem ok_law_script (D : Df K mg "_law_script" s__law_script ["jug", "items", "most"]) (C__law_drop : Cl P w K mg base CX0 1 "_law_drop" ["jug", "many"] (PailS K))
    (z_int : mg "int" = none) (z_range : mg "range" = none) (z_len : mg "len" = none) (z_min : mg "min" = none) (z_tuple : mg "tuple" = none) :
    Cl P w K mg base CX0 2 "_law_script" ["jug", "items", "most"] (ScrS K) :=
  Cl.of D sc__law_script (bw_len (n := 2) fun ds h => by obtain ⟨n, m, rfl, _⟩ := h; rfl) fun f cdv A outer s H vs Q E hr h => by
    obtain ⟨g, us, B, ds, m0, rfl, e, hw, hm, hq, ⟨ss, n, rfl, snd, s2, s60, sin, n1, n2⟩, q⟩ := h
    obtain ⟨v1, v2, rfl, hv1, hv2⟩ := dq2 hq
    cases hv2
    have hu := hr.units0
    refine ⟨_, (pss_cons (ps_set (i := 3) sc__law_script.nd rfl (.inl rfl) (pe_ix ix_seq (pe_lst (pa_cons (pe_op op_addA pe_int (pe_callC C__law_drop (hr.mono (by decide)) (by rfl) pass0 (pa_cons (pv 0) (pa_cons (pv 2) pa_nil)))) (pa_cons (pv 2) (pa_cons (pe_op op_addA pe_int (pe_callC C__law_drop (hr.mono (by decide)) (by rfl) pass0 (pa_cons (pv 0) (pa_cons (pe_callB (call_min2 rfl) (by rfl) z_min (by decide +kernel) (pa_cons (pv 2) (pa_cons pe_int pa_nil))) pa_nil)))) pa_nil)))) (pe_callC C__law_drop (hr.mono (by decide)) (by rfl) pass0 (pa_cons (pv 0) (pa_cons pe_int pa_nil))) (fun _ _ => rfl))) (pss_cons (ps_par3 (i := 4) (j := 5) (l := 6) rfl sc__law_script.nd rfl rfl rfl (by decide) (by decide) (by decide) rfl rfl rfl (pa_cons (pe_callC C__law_drop (hr.mono (by decide)) (by rfl) pass0 (pa_cons (pv 0) (pa_cons pe_int pa_nil))) (pa_cons (pe_callB call_len_seq (by rfl) z_len PySem.boot_len (pa_cons (pv 1) pa_nil)) (pa_cons (pe_lst pa_nil) pa_nil))) rfl) (pss_cons (ps_for PassesOwn.never rfl (pi_range1 (by rfl) z_range (pa_cons (pv 3) pa_nil)) (pg_name (i := 7) sc__law_script.nd rfl (.inl rfl)) (pss_cons (ps_set (i := 8) sc__law_script.nd rfl (.inl rfl) (pe_ix ix_seq (pe_lst (pa_cons (pe_callC C__law_drop (hr.mono (by decide)) (by rfl) pass0 (pa_cons (pv 0) (pa_cons (pv 5) pa_nil))) (pa_cons (pe_op op_mod (pv 7) (pv 5)) (pa_cons (pe_callC C__law_drop (hr.mono (by decide)) (by rfl) pass0 (pa_cons (pv 0) (pa_cons (pe_callB (call_min2 rfl) (by rfl) z_min (by decide +kernel) (pa_cons (pv 5) (pa_cons pe_int pa_nil))) pa_nil))) (pa_cons (pe_op op_mod (pe_op op_mulA (pv 7) pe_int) (pv 5)) pa_nil))))) (pv 4) (fun _ _ => rfl))) (pss_cons (ps_set (i := 9) sc__law_script.nd rfl (.inl rfl) (pe_op op_mod (pe_op op_addA (pe_op op_addA (pv 8) pe_int) (pe_op op_mulA (pe_callC C__law_drop (hr.mono (by decide)) (by rfl) pass0 (pa_cons (pv 0) (pa_cons (pe_op op_sub (pv 5) pe_int) pa_nil))) (pe_callTy call_int1 (by rfl) z_int (by decide +kernel) (pa_cons (pe_cmpR (op_neA hu) (pv 4) pe_int (nomark _)) pa_nil)))) (pv 5))) (pss_one (ps_expr (pe_bm PySem.F.plainAttrs_list PySem.F.slot_list_append PySem.F.type_list_append mt_append (pv 6) (pa_cons (pe_tup (pa_cons (pe_ix ix_seq (pe_lst (pa_cons pe_str (pa_cons pe_str pa_nil))) (pe_callC C__law_drop (hr.mono (by decide)) (by rfl) pass0 (pa_cons (pv 0) (pa_cons pe_int pa_nil))) (fun _ _ => rfl)) (pa_cons (pe_ix ix_seq (pv 1) (pv 8) (fun _ _ => rfl)) (pa_cons (pe_ix ix_seq (pv 1) (pv 9) (fun _ _ => rfl)) pa_nil)))) pa_nil))))))) (pss_one (ps_ret (pe_callTy call_tuple_of (by rfl) z_tuple (by decide +kernel) (pa_cons (pv 6) pa_nil))))))), ?_⟩
    have lenS : ∀ {σ' : L2.St} {B' H' : Hp}, σ'[1]? = some (some v1) → Dq K B' v1 (.list (ss.map PyData.int)) → Ev K (tCB (rLenA K) (tCons (tVar 1) tNil)) σ' B' H' (.int ss.length) := fun h1 h2 => by
      have c := rc_lenL (K := K) (ds := ss.map PyData.int)
      rw [List.length_map] at c
      exact ev_cb (ea_cons (ev_var h1 h2) ea_nil) c
    -- count
    refine w_set (K := K) (g := g) (c := 3) (m := m0) (R := RI fun r => 1 ≤ r ∧ r ≤ 200) (Ew.wk (ew_pickR (n := 3) (P := fun r => 0 ≤ r ∧ r < 3) (ew_lstR (ewa_consR (wi_add (P1 := (· = 1)) (wi_c rfl) (ew_pailC (n := n) rfl (fun _ _ _ => ev_var rfl (.int n)) (by omega) (by omega)) fun i j h1 h2 => by subst h1; omega) (ewa_consR (wi_var rfl (by omega))
      (ewa_consR (wi_add (P1 := (· = 1)) (wi_c rfl) (ew_pailC (n := min n 5) rfl (fun _ _ _ => ev_cb (ea_cons (ev_var rfl (.int n)) (ea_cons (ev_c (.int 5)) ea_nil)) rc_min) (by omega) (by omega)) fun i j h1 h2 => by subst h1; omega) ewa_nilR))) (by decide)) (ew_pailC (n := 3) rfl (fun _ _ _ => ev_c (.int 3)) (by decide) (by decide)) fun i h => by omega) (by decide)) (by omega) e hw ?_
    rintro d v3 B1 H1 ⟨cnt, rfl, c1, c2⟩ l1 w1 hv3
    cases hv3
    replace hv1 := hv1.mono l1.b
    -- way, size_here, found
    refine ew_pailC (K := K) (g := g) (n := 4) (i := 0) rfl (fun _ _ _ => ev_c (.int 4)) (by decide) (by decide) _ B1 H1 (by omega) (Le.refl l1.h) w1 _ ?_
    rintro d v4 B2 H2 ⟨way, rfl, y0, y1⟩ l2 w2 hv4
    cases hv4
    replace hv1 := hv1.mono l2.b
    refine (lenS (σ' := [some (.ref g), some v1, some (.int n), some (.int cnt), none, none, none, none, none, none]) rfl hv1) B2 H2 (Le.refl l2.h) _ fun v5 B3 H3 l3 hv5 => ?_
    cases hv5
    have w3 := w2.pure l3
    replace hv1 := hv1.mono l3.b
    refine ⟨Nat.zero_le _, fun p hp => ?_⟩
    refine ⟨_, _, _, rfl, ?_⟩
    have hpB : B3 p = none := none_of l3.h hp
    have hpg := w3.ne hp
    have l13 := (l1.trans l2).trans l3.any
    have l4 : Le [p, g] B3 H3 B3 (upd H3 p (.lst [])) := Le.made l3.h hp
    have w4 := w3.made (o := .lst []) hp
    refine ⟨.int cnt, rfl, cnt, rfl, by omega, by omega, for_range (lo := 0) (n := cnt.toNat) (fun i σ' H' => ∃ (Bi : Hp) (cs : List PyData) (ws : List V) (o7 o8 o9 : Option V),
      σ' = [some (.ref g), some v1, some (.int n), some (.int cnt), some (.int way), some (.int (ss.length : Nat)), some (.ref p), o7, o8, o9] ∧ Le [p, g] B3 H3 Bi H' ∧ Wl g (m0 + 4 + 4 * i) Bi H' ∧ Bi p = none ∧ H' p = some (.lst ws) ∧ DqAll K Bi ws cs ∧ cs.length = i ∧ ∀ c ∈ cs, GoodC ss c ∧ isCommandD c = true) ?_ ?_ ?_⟩
    · exact ⟨B3, [], [], none, none, none, rfl, l4, w4.mono (by omega), hpB, upd_same, .nil, rfl, by simp⟩
    · rintro i σ' H' hi ⟨Bi, cs, ws, o7, o8, o9, rfl, li, wi, pi, pl, wq, cl, cg⟩
      have wl := wq.length
      have hb3 := hv1.mono li.b
      have md : ∀ x : Int, 0 ≤ x % ss.length ∧ x % ss.length < ss.length := fun x => ⟨Int.emod_nonneg _ (by omega), Int.emod_lt_of_pos _ (by omega)⟩
      -- at
      refine w_set (K := K) (g := g) (c := 2) (R := RI fun r => 0 ≤ r ∧ r < ss.length) (Ew.wk (ew_pickR (n := 4) (P := fun r => 0 ≤ r ∧ r < 4) (ew_lstR (ewa_consR (ew_pailC (n := ss.length) rfl (fun B7 H7 l => ev_var rfl (.int _)) (by omega) (by omega))
        (ewa_consR (wi_ev (k := (0 + (i : Nat)) % ss.length) (fun B7 H7 l => ev_op (ev_var rfl (.int _)) (ev_var rfl (.int _)) (rv_int (by show (0 : Int) < _; omega))) (md _))
        (ewa_consR ((ew_pailC (n := min ss.length 3) rfl (fun B7 H7 l => ev_cb (ea_cons (ev_var rfl (.int _)) (ea_cons (ev_c (.int 3)) ea_nil)) rc_min) (by omega) (by omega)).imp fun d h => by
            obtain ⟨r, rfl, r0, r1⟩ := h
            exact ⟨r, rfl, r0, by omega⟩)
        (ewa_consR (wi_ev (k := (0 + (i : Nat)) * 7 % ss.length) (fun B7 H7 l => ev_op (ev_op (ev_var rfl (.int _)) (ev_c (.int 7)) (rv_mulI (.inr ⟨by decide, by decide⟩))) (ev_var rfl (.int _)) (rv_int (by show (0 : Int) < _; omega))) (md _)) ewa_nilR)))) (by decide)) (wi_var rfl ⟨y0, y1⟩) fun i h => by omega) (by decide)) (by omega) li.h wi ?_
      rintro d v8 B6 H6 ⟨a, rfl, a0, a1⟩ l6 w6 hv8
      cases hv8
      have hb6 := hb3.mono l6.b
      -- to
      refine w_set (K := K) (g := g) (c := 1) (R := RI fun r => 0 ≤ r ∧ r < ss.length ∧ r ≠ a) (Ew.wk (wi_mod (P1 := fun x => ∃ r, 0 ≤ r ∧ r < (ss.length : Int) - 1 ∧ x = a + 1 + r) (P2 := (· = (ss.length : Int))) (wi_add (P1 := (· = a + 1)) (P2 := fun r => 0 ≤ r ∧ r < (ss.length : Int) - 1) (wi_ev (k := a + 1) (fun B9 H9 l => ev_op (ev_var rfl (.int a)) (ev_c (.int 1)) rv_addI) rfl)
        (wi_op (f := fun i j => i * j) (P1 := fun r => 0 ≤ r ∧ r < (ss.length : Int) - 1) (P2 := fun b => b = 0 ∨ b = 1) (ew_pailC (n := (ss.length : Int) - 1) rfl (fun B8 H8 l => ev_op (ev_var rfl (.int _)) (ev_c (.int 1)) rv_int0) (by omega) (by omega))
          (wi_ev (k := if (!decide (way = 1)) = true then 1 else 0) (fun B9 H9 l => ev_cb (rr := rInt1) (ea_cons (ev_op (ev_var rfl (.int way)) (ev_c (.int 1)) rv_neI) ea_nil) rc_int1) (by split <;> simp)) fun i j h1 h2 => ⟨rv_mulI (.inr (by rcases h2 with rfl | rfl <;> exact ⟨by decide, by decide⟩)), by rcases h2 with rfl | rfl <;> omega⟩) fun i j h1 h2 => ⟨j, h2.1, h2.2, by rw [h1]⟩)
        (wi_var rfl rfl) fun x y hx hy => by
          subst hy
          obtain ⟨r, r0, r1, rfl⟩ := hx
          exact ⟨by omega, (md _).1, (md _).2, round_ne a0 a1 r0 r1⟩) (by decide)) (by omega) l6.h w6 ?_
      rintro d v9 B7 H7 ⟨o, rfl, o0, o1, oa⟩ l7 w7 hv9
      cases hv9
      have hb7 := hb6.mono l7.b
      have lg := l6.trans l7
      have pl7 := lg.k p _ (by simp [hpg]) pl
      have p7 := lg.own pl pi
      have wq7 := wq.mono lg.b
      have ha : a.toNat < ss.length := by omega
      have ho : o.toNat < ss.length := by omega
      refine w_append (K := K) (g := g) (p := p) (c := 1) (vs := ws) (R := fun d => ∃ x : PySem.Str, (x = "behind" ∨ x = "before") ∧ d = .tuple [.str x, .int ss[a.toNat], .int ss[o.toNat]]) rfl (Ew.imp (Ew.wk (ew_tup (ewa_cons (a := 1) (b := 0) (R1 := fun d => ∃ x : PySem.Str, d = .str x ∧ (x = "behind" ∨ x = "before")) (Rr := (· = [PyData.int ss[a.toNat], .int ss[o.toNat]])) (Ew.wk (ew_ixR (n := 2) (P := fun r => 0 ≤ r ∧ r < 2) (ew_lstR (ewa_consR ((ew_of fun _ _ _ => ev_c (.str "behind")).imp fun d h => ⟨_, h, .inl rfl⟩) (ewa_consR ((ew_of fun _ _ _ => ev_c (.str "before")).imp fun d h => ⟨_, h, .inr rfl⟩) ewa_nilR)) (by decide)) (ew_pailC (n := 2) rfl (fun _ _ _ => ev_c (.int 2)) (by decide) (by decide)) fun i h => by omega) (by decide))
        (ewa_of fun B' H' l => ea_cons (ev_op (ev_var rfl (hb7.mono l.b)) (ev_var rfl (.int a)) (rv_ixL ?_)) (ea_cons (ev_op (ev_var rfl (hb7.mono l.b)) (ev_var rfl (.int o)) (rv_ixL ?_)) ea_nil))) fun ds h => by
          obtain ⟨_, _, rfl, _, rfl⟩ := h
          show 3 ≤ sizeLine
          exact size_ok (by decide)) (by decide)) fun d h => by
          obtain ⟨_, rfl, _, _, rfl, ⟨x, rfl, hx⟩, rfl⟩ := h
          exact ⟨x, hx, rfl⟩) (by omega) l7.h w7 p7 pl7 hpg (by omega) fun d v B' H' r l b' p' pl' hv => ?_
      · have z := atI_nat (xs := ss.map PyData.int) (j := a.toNat) (v := .int ss[a.toNat]) (by rw [List.getElem?_map, List.getElem?_eq_getElem ha]; rfl)
        rwa [show ((a.toNat : Nat) : Int) = a by omega] at z
      · have z := atI_nat (xs := ss.map PyData.int) (j := o.toNat) (v := .int ss[o.toNat]) (by rw [List.getElem?_map, List.getElem?_eq_getElem ho]; rfl)
        rwa [show ((o.toNat : Nat) : Int) = o by omega] at z
      · obtain ⟨x, hx, rfl⟩ := r
        have hne := nd_get snd (List.getElem?_eq_getElem ha) (List.getElem?_eq_getElem ho) (by omega)
        refine ⟨B', cs ++ [_], ws ++ [v], _, _, _, rfl, ?_, b'.mono (by omega), p', pl', (wq7.mono l.b).append (.cons hv .nil), by rw [List.length_append, cl]; rfl, fun c hc => ?_⟩
        · exact (li.trans (lg.wk (by simp))).trans l
        · rcases List.mem_append.mp hc with z | z
          · exact cg c z
          · rw [List.mem_singleton.mp z]
            exact ⟨⟨x, _, _, rfl, hx, List.getElem_mem ha, List.getElem_mem ho, hne⟩, command_is hx (sin _ (List.getElem_mem ha)) (sin _ (List.getElem_mem ho)) hne⟩
    · rintro σ' H' ⟨Bi, cs, ws, o7, o8, o9, rfl, li, wi, pi, pl, wq, cl, cg⟩
      refine ⟨.ref p, rfl, p, ws, rfl, .inl ⟨.inl (.inl pl), fun t ht => ?_⟩⟩
      have lt : Le [] Bi H' (upd Bi t (.tup ws)) (upd H' t (.tup ws)) := Le.new li.h ht
      refine q (.tuple cs) ⟨ss, n, cs, rfl, rfl, ?_, fun c hc => (cg c hc).1⟩ (.ref t) _ _ ?_ ((wi.pure lt).mono (by omega)) (.tup (.inl (.inl upd_same)) (wq.mono lt.b))
      · simp only [isScriptD, Bool.and_eq_true, decide_eq_true_eq, List.all_eq_true]
        exact ⟨⟨by omega, by omega⟩, fun c hc => (cg c hc).2⟩
      · exact l13.trans ((li.local hp).trans lt.any)
end
end K34

set_option maxRecDepth 100000
set_option maxHeartbeats 2000000
namespace K34
open PySem PySem.Spec PyProof.Rows L2 MA
section
variable {P : Program} {w : World} {K : PySem.W.Frag} {mg : PySem.Str → Option Value} {base : Heap}
theorem full_all {p : Int → Bool} : ∀ {ns : List Int}, decide (((ns.filter p).length : Int) = (ns.length : Int)) = ns.all p
  | [] => rfl
  | a :: ns => by
    have ih := full_all (p := p) (ns := ns)
    have le := List.length_filter_le p ns
    rw [List.filter_cons, List.all_cons]
    cases z : p a with
    | true =>
      rw [if_pos rfl, List.length_cons, List.length_cons, Bool.true_and, ← ih]
      congr 1
      exact propext ⟨fun h => by omega, fun h => by omega⟩
    | false =>
      rw [if_neg (by decide), Bool.false_and, List.length_cons]
      exact decide_eq_false (by omega)
theorem ok_law_possible (D : Df K mg "_law_possible" s__law_possible ["effect_here"]) (z_len : mg "len" = none) : Cl P w K mg base CX0 1 "_law_possible" ["effect_here"] (PosS K) :=
  Cl.of D sc__law_possible (fun vs H Q E h => by obtain ⟨_, _, _, _, rfl, _⟩ := h; rfl) fun f cdv A outer s H vs Q E hr h => by
    obtain ⟨B, v0, ns, m, rfl, e, h0, V0, q⟩ := h
    have hu := hr.units0
    have hu1 := hu_of hr
    have hu64 : (cxOf CX0 P w K mg base N__law_possible "_law_possible" (defScope s__law_possible) f cdv A outer s H E).nox.A.units + 64 < cLine := hr.units
    refine ⟨_, (pss_cons (ps_lockA (ps_setLc (i := 1) (own := [("key", 2)]) (tt := (tTest (tOp (rEqD K) (tDGet (tVar 0) (tVar 2)) (tTup (tCons (tVar 2) tNil))))) (te := (tVar 2)) rfl sc__law_possible.nd rfl rfl (sw_true rfl rfl rfl (by decide +kernel)) (pi_keys (pv 0)) (blkOk_by (N := N__law_possible) (sc := defScope s__law_possible) (by decide +kernel)) (fun _ _ _ _ _ => (pg_name (i := 2) sc__law_possible.nd rfl (.inl rfl))) (fun _ _ _ _ _ => (pts_one (pt_cmpR (op_eqD hu64) (pe_dget hu1 (pv 0) (pv 2) (fun _ _ => rfl)) (pe_tup (pa_cons (pv 2) pa_nil)) (nomark _)))) (fun _ _ _ _ _ => (pv 2)))) (pss_one (ps_ret (pe_or (pe_cmpR (op_neA hu) (pe_lock (pe_lc (own := [("key", 2)]) (tt := (tTest (tOp (rEqD K) (tDGet (tVar 0) (tVar 2)) (tTup tNil)))) (te := (tVar 2)) rfl sc__law_possible.nd (pi_keys (pv 0)) (blkOk_by (N := N__law_possible) (sc := defScope s__law_possible) (by decide +kernel)) (fun _ _ _ _ _ => (pg_name (i := 2) sc__law_possible.nd rfl (.inl rfl))) (fun _ _ _ _ _ => (pts_one (pt_cmpR (op_eqD hu64) (pe_dget hu1 (pv 0) (pv 2) (fun _ _ => rfl)) (pe_tup pa_nil) (nomark _)))) (fun _ _ _ _ _ => (pv 2)))) (pe_lst pa_nil) (nomark _)) (pe_one (pe_cmpR (op_eqA hu) (pe_callB call_len_seq (by rfl) z_len PySem.boot_len (pa_cons (pv 1) pa_nil)) (pe_callB cr_lenR (by rfl) z_len PySem.boot_len (pa_cons (pv 0) pa_nil)) (nomark _))))))), ?_⟩
    have n60 := V0.len
    have c1 := ev_lcGetK (K := K) (σ := L2.start N__law_possible [v0]) (B := B) (H := H) (i := 0) (jk := 2) (vs := [2]) (tt := tTest (tOp (rEqD K) (tDGet (tVar 0) (tVar 2)) (tTup (tCons (tVar 2) tNil)))) (F := fun n => .tuple ((m n).map PyData.int)) (fun n => decide (m n = [n])) rfl h0 (off_tup m) e (by omega) (fun n hn B' H' g => et_test (ev_op g (ev_tup (ea_cons (ev_var (i := 2) rfl (.int n)) ea_nil) (size_ok (by show 1 ≤ 100000; decide))) (rv_eqTD (bs := [n]))))
    refine q_set (K := K) c1 e fun v1 B1 H1 l1 h1 => ?_
    replace h0 := h0.mono l1.b
    have c2 := ev_lcGetK (K := K) (σ := [some v0, some v1, none]) (B := B1) (H := H1) (i := 0) (jk := 2) (vs := [2]) (tt := tTest (tOp (rEqD K) (tDGet (tVar 0) (tVar 2)) (tTup tNil))) (F := fun n => .tuple ((m n).map PyData.int)) (fun n => decide (m n = [])) rfl h0 (off_tup m) l1.h (by omega) (fun n hn B' H' g => et_test (ev_op g (ev_tup ea_nil (size_ok (by show 0 ≤ 100000; decide))) (rv_eqTD (bs := []))))
    have ln := rc_lenL (K := K) (ds := (ns.filter fun n => decide (m n = [n])).map PyData.int)
    rw [List.length_map] at ln
    have a1 := ev_op (K := K) c2 (ev_lst ea_nil (Nat.zero_le _)) rv_neL0
    have a2 := ev_op (K := K) (ev_cb (rr := rLenA K) (ea_cons (ev_var (K := K) (i := 1) (σ := [some v0, some v1, none]) (B := B1) (H := H1) rfl h1) ea_nil) ln) (ev_lenDict (ev_var (i := 0) rfl h0)) rv_eqI
    rw [full_all] at a2
    refine s_ret (K := K) (ev_orV a1 fun _ => a2) l1.h fun v B2 H2 l2 hv => ?_
    cases hv
    have e1 : (!((ns.filter fun n => decide (m n = [])).map PyData.int).isEmpty) = ns.any fun n => decide (m n = []) := by
      rw [List.isEmpty_map]
      cases z : ns.any fun n => decide (m n = []) with
      | true =>
        obtain ⟨n, hn, hd⟩ := List.any_eq_true.mp z
        cases y : ns.filter fun n => decide (m n = []) with
        | nil =>
          have : n ∈ ns.filter fun n => decide (m n = []) := List.mem_filter.mpr ⟨hn, hd⟩
          rw [y] at this
          cases this
        | cons a b => rfl
      | false =>
        have : (ns.filter fun n => decide (m n = [])) = [] := List.filter_eq_nil_iff.mpr fun a ha hd => by
          have := List.any_eq_false.mp z a ha
          exact this hd
        rw [this]
        rfl
    rw [e1]
    exact q B2 H2 (l1.trans l2)
end
end K34

set_option maxRecDepth 100000
set_option maxHeartbeats 8000000
namespace K34
open PySem PySem.Spec PyProof.Rows L2 MA
theorem mem_uniq {ns : List Int} {m : Int → List Int} (h : (ns.flatMap m).Nodup) {n n' i : Int} (hn : n ∈ ns) (hn' : n' ∈ ns) (hi : i ∈ m n) (hi' : i ∈ m n') : n = n' := (srcM_eq h hn hi).symm.trans (srcM_eq h hn' hi')
theorem blk_nd {ns : List Int} {m : Int → List Int} (h : (ns.flatMap m).Nodup) {n : Int} (hn : n ∈ ns) : (m n).Nodup := by
  induction ns with
  | nil => cases hn
  | cons a ns ih =>
    rw [List.flatMap_cons, List.nodup_append] at h
    rcases List.mem_cons.mp hn with e | e
    · rw [e]; exact h.1
    · exact ih h.2.1 e
section
variable {K : PySem.W.Frag} {σ : L2.St} {B H B0 H0 : Hp} {p : Addr} {ns : List Int} {rows : List Addr} {M : Int → List Int} {a b : Int}
abbrev remT (K : PySem.W.Frag) : TS := tSeq (tAsg (tDGet (tVar 3) (tVar 6)) (gName 7)) (tIfS (tTest (tOp (rIn K false) (tVar 2) (tVar 7))) (tDrop (tBM K "list" rRemI (tVar 7) (tCons (tVar 2) tNil))) tNext)
/-- a test whether an int is in a list of ours -/
theorem et_inOwn {r : Addr} {i j : Nat} {k : Int} {R : List Int} (hi : σ[i]? = some (some (.int k))) (hj : σ[j]? = some (some (.ref r))) (hb : B r = none) (hh : H r = some (.lst (R.map V.int))) : EvT (tTest (tOp (rIn K false) (tVar i) (tVar j))) σ B H (decide (k ∈ R)) :=
  et_lend (et_test (ev_op (ev_var hi (.int k)) (ev_var hj (.lst upd_same (dqInts _))) rv_inLI)) hb hh
theorem a_ret {te : TE} {D : Ends} (h : te σ H fun v H1 => D.rt v H1) : tRet te D σ H := h
theorem s_rem {r : Addr} {i j : Nat} {k : Int} {R : List Int} {D : Ends} (hi : σ[i]? = some (some (.ref r))) (hj : σ[j]? = some (some (.int k))) (hp : H r = some (.lst (R.map V.int))) (hk : k ∈ R) (q : D.nx σ (upd H r (.lst ((R.erase k).map V.int)))) : tDrop (tBM K "list" rRemI (tVar i) (tCons (tVar j) tNil)) D σ H := by
  refine ⟨.ref r, hi, .inl ⟨rfl, _, .inl (.inl hp)⟩, .int k, hj, ?_⟩
  show rRemI (.ref r) [.int k] H fun _ H1 => D.nx σ H1
  exact rem_own hp hk q
theorem q_remAll {a0 : Addr} {v1 vw o6 o7 : Option V} {tz : TS} {D : Ends} (l0 : Le [] B0 H0 B H) (h0 : B a0 = some (.lst (ns.map V.int))) (x : SW K p ns rows M B H) (hfr : ∀ r ∈ rows, H0 r = none) (hnd : (ns.flatMap M).Nodup)
    (q : ∀ o6 o7 B' H', Le [] B0 H0 B' H' → Ex B B' → SW K p ns rows (fun n => (M n).filter fun x => !decide (x = a)) B' H' → tz D [some (.ref a0), v1, some (.int a), some (.ref p), vw, some (.int b), o6, o7] H') :
    tSeq (tFor (iList K (tVar 0)) (gName 6) (remT K)) tz D [some (.ref a0), v1, some (.int a), some (.ref p), vw, some (.int b), o6, o7] H := by
  refine ⟨.ref a0, rfl, a0, rfl, ⟨_, .inl (.inl (l0.h _ _ h0))⟩, for_list (xs := ns.map V.int) (fun t σ' H' => ∃ (Bi : Hp) (o6 o7 : Option V), σ' = [some (.ref a0), v1, some (.int a), some (.ref p), vw, some (.int b), o6, o7] ∧ Le [] B0 H0 Bi H' ∧ Ex B Bi ∧ SW K p ns rows (fun n => if n ∈ ns.take t then (M n).filter (fun x => !decide (x = a)) else M n) Bi H')
    ⟨B, o6, o7, rfl, l0, fun _ _ h => h, x.congr fun n _ => by simp⟩ (fun t σ' H' _ h => ?_) (fun t y σ' H' ht h => ?_) (fun σ' H' h => ?_)⟩
  · obtain ⟨Bi, _, _, _, l, lb, _⟩ := h
    exact .inl (.inl (l.h _ _ (lb _ _ h0)))
  · obtain ⟨Bi, o6, o7, rfl, l, lb, xi⟩ := h
    rw [List.getElem?_map] at ht
    obtain ⟨n, hn, rfl⟩ := Option.map_eq_some_iff.mp ht
    have hnm := List.mem_of_getElem? hn
    obtain ⟨u, r, hu1, hu2, hu3, hu4, hu5, hu6⟩ := xi.at hnm
    have nin : n ∉ ns.take t := nd_take x.nd hn
    have hu4' : H' r = some (.lst ((M n).map V.int)) := by
      rw [if_neg nin] at hu4
      exact hu4
    refine q_asgR ⟨.ref p, rfl, .int n, rfl, p, .ref r, rfl, by have g := DGet.k (k := (.inl n : Key)) xi.has; rw [hu6] at g; exact g, ?_⟩
    have tk : ∀ k, k ∈ ns.take (t + 1) ↔ k ∈ ns.take t ∨ k = n := fun k => by rw [take_one hn, List.mem_append, List.mem_singleton]
    refine s_when (k := decide (a ∈ M n)) (et_inOwn (i := 2) (j := 7) rfl rfl hu5 hu4') l.h (fun hk B2 H2 l2 => ?_) fun hk B2 H2 l2 => ?_
    · have ham : a ∈ M n := of_decide_eq_true hk
      have h2 := l2.k r _ (by simp) hu4'
      have b2 := l2.own hu4' hu5
      have x2 := xi.pure l2
      refine s_rem rfl rfl h2 ham ?_
      have lp : Le [r] B2 H2 B2 (upd H2 r (.lst (((M n).erase a).map V.int))) := Le.put l2.h b2 (by simp)
      refine ⟨B2, _, _, rfl, ((l.trans l2).any.trans lp).local (hfr r hu3), lb.trans l2.b, (x2.changed hu1 hu2 lp b2 upd_same).congr fun k hk => ?_⟩
      by_cases z : k = n
      · subst z
        rw [if_pos rfl, if_pos ((tk k).mpr (.inr rfl)), (blk_nd hnd hnm).erase_eq_filter]
        rfl
      · rw [if_neg z]
        by_cases y : k ∈ ns.take t
        · rw [if_pos y, if_pos ((tk k).mpr (.inl y))]
        · rw [if_neg y, if_neg (fun w => ((tk k).mp w).elim y z)]
    · have ham : a ∉ M n := of_decide_eq_false hk
      refine ⟨B2, _, _, rfl, l.trans l2, lb.trans l2.b, (xi.pure l2).congr fun k hk => ?_⟩
      by_cases z : k = n
      · subst z
        rw [if_neg nin, if_pos ((tk k).mpr (.inr rfl))]
        exact (List.filter_eq_self.mpr fun y hy => by
          have : y ≠ a := fun w => ham (w ▸ hy)
          simp [this]).symm
      · by_cases y : k ∈ ns.take t
        · rw [if_pos y, if_pos ((tk k).mpr (.inl y))]
        · rw [if_neg y, if_neg (fun w => ((tk k).mp w).elim y z)]
  · obtain ⟨Bi, o6, o7, rfl, l, lb, xi⟩ := h
    rw [List.length_map, List.take_length] at xi
    exact q o6 o7 Bi H' l lb (xi.congr fun n hn => if_pos hn)
abbrev insT (K : PySem.W.Frag) : TS := tSeq (tAsg (tDGet (tVar 3) (tVar 6)) (gName 7)) (tIfS (tTest (tOp (rIn K false) (tVar 5) (tVar 7))) (tDrop (tBM K "list" rIns (tVar 7) (tCons (tOp (rAddA K) (tBM K "list" (rIndex K) (tVar 7) (tCons (tVar 5) tNil)) (tCB rInt1 (tCons (tOp (rEqA K) (tVar 4) (tC (.str "behind"))) tNil))) (tCons (tVar 2) tNil)))) tNext)
def insL (k : Bool) (a b : Int) (R : List Int) : List Int := R.take (R.idxOf b + (if k then 1 else 0)) ++ [a] ++ R.drop (R.idxOf b + (if k then 1 else 0))
theorem q_insAll {a0 : Addr} {wd : PySem.Str} {vw : V} {v1 o6 o7 : Option V} {D : Ends} (l0 : Le [] B0 H0 B H) (h0 : B a0 = some (.lst (ns.map V.int))) (hw : Dq K B vw (.str wd)) (x : SW K p ns rows M B H) (hfr : ∀ r ∈ rows, H0 r = none) (hlen : ∀ n ∈ ns, (M n).length ≤ 1000)
    (q : ∀ o6 o7 B' H', Le [] B0 H0 B' H' → Ex B B' → SW K p ns rows (fun n => if b ∈ M n then insL (decide (wd = "behind")) a b (M n) else M n) B' H' → D.nx [some (.ref a0), v1, some (.int a), some (.ref p), some vw, some (.int b), o6, o7] H') :
    tFor (iList K (tVar 0)) (gName 6) (insT K) D [some (.ref a0), v1, some (.int a), some (.ref p), some vw, some (.int b), o6, o7] H := by
  refine ⟨.ref a0, rfl, a0, rfl, ⟨_, .inl (.inl (l0.h _ _ h0))⟩, for_list (xs := ns.map V.int) (fun t σ' H' => ∃ (Bi : Hp) (o6 o7 : Option V), σ' = [some (.ref a0), v1, some (.int a), some (.ref p), some vw, some (.int b), o6, o7] ∧ Le [] B0 H0 Bi H' ∧ Ex B Bi ∧ SW K p ns rows (fun n => if n ∈ ns.take t ∧ b ∈ M n then insL (decide (wd = "behind")) a b (M n) else M n) Bi H')
    ⟨B, o6, o7, rfl, l0, fun _ _ h => h, x.congr fun n _ => by simp⟩ (fun t σ' H' _ h => ?_) (fun t y σ' H' ht h => ?_) (fun σ' H' h => ?_)⟩
  · obtain ⟨Bi, _, _, _, l, lb, _⟩ := h
    exact .inl (.inl (l.h _ _ (lb _ _ h0)))
  · obtain ⟨Bi, o6, o7, rfl, l, lb, xi⟩ := h
    rw [List.getElem?_map] at ht
    obtain ⟨n, hn, rfl⟩ := Option.map_eq_some_iff.mp ht
    have hnm := List.mem_of_getElem? hn
    obtain ⟨u, r, hu1, hu2, hu3, hu4, hu5, hu6⟩ := xi.at hnm
    have nin : n ∉ ns.take t := nd_take x.nd hn
    have hu4' : H' r = some (.lst ((M n).map V.int)) := by
      rw [if_neg (fun w => nin w.1)] at hu4
      exact hu4
    refine q_asgR ⟨.ref p, rfl, .int n, rfl, p, .ref r, rfl, by have g := DGet.k (k := (.inl n : Key)) xi.has; rw [hu6] at g; exact g, ?_⟩
    have tk : ∀ k, k ∈ ns.take (t + 1) ↔ k ∈ ns.take t ∨ k = n := fun k => by rw [take_one hn, List.mem_append, List.mem_singleton]
    refine s_when (k := decide (b ∈ M n)) (et_inOwn (i := 5) (j := 7) rfl rfl hu5 hu4') l.h (fun hk B2 H2 l2 => ?_) fun hk B2 H2 l2 => ?_
    · have hbm : b ∈ M n := of_decide_eq_true hk
      have h2 := l2.k r _ (by simp) hu4'
      have b2 := l2.own hu4' hu5
      have x2 := xi.pure l2
      refine s_insAdd (K := K) (k := decide (wd = "behind")) rfl rfl rfl h2 b2 hbm (ev_op (ev_var (i := 4) rfl ((hw.mono lb).mono l2.b)) ev_s rv_eqS) (hlen n hnm) l2.h fun B5 H5 l5 b5 h5 => ?_
      refine ⟨B5, _, _, rfl, ((l.trans l2).any.trans l5).local (hfr r hu3), (lb.trans l2.b).trans l5.b, (x2.changed hu1 hu2 l5 b5 h5).congr fun k hk => ?_⟩
      by_cases z : k = n
      · subst z
        rw [if_pos (show k = k from rfl), if_pos (show k ∈ ns.take (t + 1) ∧ b ∈ M k from ⟨(tk k).mpr (.inr rfl), hbm⟩)]
        rfl
      · rw [if_neg z]
        by_cases y : k ∈ ns.take t ∧ b ∈ M k
        · rw [if_pos y, if_pos ⟨(tk k).mpr (.inl y.1), y.2⟩]
        · rw [if_neg y, if_neg (fun w => ((tk k).mp w.1).elim (fun v => y ⟨v, w.2⟩) z)]
    · have hbm : b ∉ M n := of_decide_eq_false hk
      refine ⟨B2, _, _, rfl, l.trans l2, lb.trans l2.b, (xi.pure l2).congr fun k hk => ?_⟩
      by_cases z : k = n
      · subst z
        rw [if_neg (fun w => nin w.1), if_neg (fun w => hbm w.2)]
      · by_cases y : k ∈ ns.take t ∧ b ∈ M k
        · rw [if_pos y, if_pos ⟨(tk k).mpr (.inl y.1), y.2⟩]
        · rw [if_neg y, if_neg (fun w => ((tk k).mp w.1).elim (fun v => y ⟨v, w.2⟩) z)]
  · obtain ⟨Bi, o6, o7, rfl, l, lb, xi⟩ := h
    rw [List.length_map, List.take_length] at xi
    refine q o6 o7 Bi H' l lb (xi.congr fun n hn => ?_)
    by_cases y : b ∈ M n
    · rw [if_pos ⟨hn, y⟩, if_pos y]
    · rw [if_neg (fun w => y w.2), if_neg y]
end
end K34

set_option maxRecDepth 100000
set_option maxHeartbeats 8000000
namespace K34
open PySem PySem.Spec PyProof.Rows L2 MA
theorem take_perm {ns : List Int} {cs : List PyData} (hn : ns.Nodup) (h : ∀ c ∈ cs, GoodC ns c) (i : Nat) : (ns.flatMap (scrMap (cs.take i))).Perm ns := by
  obtain ⟨p1, p2⟩ := play_of (cs.take i) (fun c hc => h c (List.mem_of_mem_take hc)) (R := ns) fun k hk => count_nd hn hk
  rw [p1] at p2
  exact p2
theorem blk_len {ns : List Int} {m : Int → List Int} (hp : (ns.flatMap m).Perm ns) {n : Int} (hn : n ∈ ns) : (m n).length ≤ ns.length := by
  have h1 := hp.length_eq
  obtain ⟨s, t, rfl⟩ := List.append_of_mem hn
  rw [List.flatMap_append, List.flatMap_cons, List.length_append, List.length_append] at h1
  omega
section
variable {P : Program} {w : World} {K : PySem.W.Frag} {mg : PySem.Str → Option Value} {base : Heap}
abbrev BlkLS (K : PySem.W.Frag) : Sp := fun vs H Q _ => ∃ (B : Hp) (v0 v1 : V) (ns : List Int) (cs : List PyData), vs = [v0, v1] ∧ Ex B H ∧ Dq K B v0 (.list (ns.map PyData.int)) ∧ Dq K B v1 (.tuple cs) ∧ ns.Nodup ∧ ns.length ≤ 60 ∧ (∀ c ∈ cs, GoodC ns c) ∧
  ∀ v' B' H', Le [] B H B' H' → (∃ a, v' = .ref a ∧ H a = none) → Dq K B' v' (effT ns (scrMap cs)) → Q v' H'
theorem ok_law_blocks (D : Df K mg "_law_blocks" s__law_blocks ["items", "script_here"]) (z_dict : mg "dict" = none) (z_tuple : mg "tuple" = none) (z_int : mg "int" = none) :
    Cl P w K mg base CX0 1 "_law_blocks" ["items", "script_here"] (BlkLS K) :=
  Cl.of D sc__law_blocks (fun vs H Q E h => by obtain ⟨_, _, _, _, _, rfl, _⟩ := h; rfl) fun f cdv A outer s H vs Q E hr h => by
    obtain ⟨B, v0, v1, ns, cs, rfl, e, h0, h1, hnd, h60, hg, k⟩ := h
    have hu := hr.units0
    have hu1 := hu_of hr
    refine ⟨_, (pss_cons (ps_set (i := 3) sc__law_blocks.nd rfl (.inr rfl) (pe_callTy (call_dictP rfl) (by rfl) z_dict (by decide +kernel) (pa_cons (pe_lc (own := [("item", 2)]) (tt := tYes) (te := (tTup (tCons (tVar 2) (tCons (tLst (tCons (tVar 2) tNil)) tNil)))) rfl sc__law_blocks.nd (pi_list (pv 0)) (blkOk_by (N := N__law_blocks) (sc := defScope s__law_blocks) (by decide +kernel)) (fun _ _ _ _ _ => (pg_name (i := 2) sc__law_blocks.nd rfl (.inl rfl))) (fun _ _ _ _ _ => pts_nil) (fun _ _ _ _ _ => (pe_tup (pa_cons (pv 2) (pa_cons (pe_lst (pa_cons (pv 2) pa_nil)) pa_nil))))) pa_nil))) (pss_cons (ps_for PassesOwn.never rfl (pi_tup (pv 1)) (pg_tup rfl (pgs_cons (pg_name (i := 4) sc__law_blocks.nd rfl (.inl rfl)) (pgs_cons (pg_name (i := 2) sc__law_blocks.nd rfl (.inl rfl)) (pgs_cons (pg_name (i := 5) sc__law_blocks.nd rfl (.inl rfl)) pgs_nil)))) (pss_cons (ps_for PassesOwn.never rfl (pi_list (pv 0)) (pg_name (i := 6) sc__law_blocks.nd rfl (.inl rfl)) (pss_cons (ps_set (i := 7) sc__law_blocks.nd rfl (.inl rfl) (pe_dget hu1 (pv 3) (pv 6) (fun _ _ => rfl))) (pss_one (ps_if (pt_cmpR op_in_seq (pv 2) (pv 7) (by rfl)) (pss_one (ps_expr (pe_bm PySem.F.plainAttrs_list PySem.F.slot_list_remove PySem.F.type_list_remove mt_remove (pv 7) (pa_cons (pv 2) pa_nil)))) pss_nil)))) (pss_one (ps_for PassesOwn.never rfl (pi_list (pv 0)) (pg_name (i := 6) sc__law_blocks.nd rfl (.inl rfl)) (pss_cons (ps_set (i := 7) sc__law_blocks.nd rfl (.inl rfl) (pe_dget hu1 (pv 3) (pv 6) (fun _ _ => rfl))) (pss_one (ps_if (pt_cmpR op_in_seq (pv 5) (pv 7) (by rfl)) (pss_one (ps_expr (pe_bm PySem.F.plainAttrs_list PySem.F.slot_list_insert PySem.F.type_list_insert mt_insert (pv 7) (pa_cons (pe_op op_addA (pe_bm PySem.F.plainAttrs_list PySem.F.slot_list_index PySem.F.type_list_index mt_index (pv 7) (pa_cons (pv 5) pa_nil)) (pe_callTy call_int1 (by rfl) z_int (by decide +kernel) (pa_cons (pe_cmpR (op_eqA hu) (pv 4) pe_str (nomark _)) pa_nil))) (pa_cons (pv 2) pa_nil))))) pss_nil))))))) (pss_one (ps_ret (pe_callTy (call_dictP rfl) (by rfl) z_dict (by decide +kernel) (pa_cons (pe_lc (own := [("key", 6)]) (tt := tYes) (te := (tTup (tCons (tVar 6) (tCons (tCB (rTupA K) (tCons (tDGet (tVar 3) (tVar 6)) tNil)) tNil)))) rfl sc__law_blocks.nd (pi_list (pv 0)) (blkOk_by (N := N__law_blocks) (sc := defScope s__law_blocks) (by decide +kernel)) (fun _ _ _ _ _ => (pg_name (i := 6) sc__law_blocks.nd rfl (.inl rfl))) (fun _ _ _ _ _ => pts_nil) (fun _ _ _ _ _ => (pe_tup (pa_cons (pv 6) (pa_cons (pe_callTy call_tuple_of (by rfl) z_tuple (by decide +kernel) (pa_cons (pe_dget hu1 (pv 3) (pv 6) (fun _ _ => rfl)) pa_nil)) pa_nil))))) pa_nil)))))), ?_⟩
    have hsl : 100000 < sizeLine := by rw [sizeLine_eq]; decide
    refine q_rowsNew (K := K) (σ := L2.start N__law_blocks [v0, v1]) (ns := ns) (i := 3) (j := 2) (vs := [2]) (ev_var rfl h0) e hnd (by omega) (fun _ => rfl) (fun _ => rfl) fun p rows B1 H1 l1 hp hfr x1 => ?_
    have h01 := h0.mono l1.b
    have h11 := h1.mono l1.b
    cases h01 with
    | lst hs0 hq0 =>
      rename_i a0 ys0
      cases ofInts hq0
      cases h11 with
      | tup hs1 hq1 =>
        rename_i a1 zs
        refine ⟨.ref a1, rfl, a1, rfl, ⟨zs, Evl.ex_t l1.h hs1⟩, for_tup (xs := zs) (fun i σ' H' => ∃ (Bj : Hp) (o2 o4 o5 o6 o7 : Option V), σ' = [some (.ref a0), some (.ref a1), o2, some (.ref p), o4, o5, o6, o7] ∧ Le [] B H Bj H' ∧ Ex B1 Bj ∧ SW K p ns rows (scrMap (cs.take i)) Bj H')
          ⟨B1, none, none, none, none, none, rfl, l1, fun _ _ h => h, x1.congr fun n _ => rfl⟩ (fun i σ' H' _ h => ?_) (fun i y σ' H' hi h => ?_) (fun σ' H' h => ?_)⟩
        · obtain ⟨Bj, _, _, _, _, _, _, lj, ej, _⟩ := h
          exact Evl.ex_t (ej.trans lj.h) hs1
        · obtain ⟨Bj, o2, o4, o5, o6, o7, rfl, lj, ej, xj⟩ := h
          obtain ⟨c, hc, hx⟩ := hq1.get hi
          have hpm := take_perm hnd hg i
          have hfnd : (ns.flatMap (scrMap (cs.take i))).Nodup := hpm.nodup_iff.mpr hnd
          have hmap : ∀ n, scrMap (cs.take (i + 1)) n = (scrMap (cs.take i) n).flatMap (mapD c) := fun n => by
            rw [take_one hc, scrMap_append]
            congr 1
            funext x
            show (mapD c x).flatMap (scrMap []) = _
            exact flatMap_self fun a _ => rfl
          obtain ⟨wd, a, b, rfl, hw, ha, hb, hne⟩ := hg c (List.mem_of_getElem? hc)
          generalize hM : scrMap (cs.take i) = M at xj hfnd hmap hpm
          refine gt3 lj.h (hx.mono ej) fun y3 y4 y5 h3 h4 h5 => ?_
          cases h4
          cases h5
          refine q_remAll (K := K) (ns := ns) (M := M) (p := p) (rows := rows) lj (ej _ _ hs0) xj hfr hfnd fun o6 o7 B2 H2 l2 eb2 x2 => ?_
          refine q_insAll (K := K) (ns := ns) (M := fun n => (M n).filter fun x => !decide (x = a)) (p := p) (rows := rows) (wd := wd) l2 (eb2 _ _ (ej _ _ hs0)) ((h3).mono eb2) x2 hfr (fun n hn => ?_) fun o6 o7 B3 H3 l3 eb3 x3 => ?_
          · have := List.length_filter_le (fun x => !decide (x = a)) (M n)
            have := blk_len hpm hn
            omega
          · refine ⟨B3, _, _, _, _, _, rfl, l3, (ej.trans eb2).trans eb3, x3.congr fun n hn => ?_⟩
            have hst := blk_step (b := decide (wd = "behind")) (L := M n) (i := a) (j := b) (List.nodup_iff_count.mp (blk_nd hfnd hn) b) hne
            rw [hmap n]
            show _ = (M n).flatMap (cmdMap (decide (wd = "behind")) a b)
            rw [← hst]
            rfl
        · obtain ⟨Bj, o2, o4, o5, o6, o7, rfl, lj, ej, xj⟩ := h
          rw [hq1.length, List.take_length] at xj
          have cmp := ev_compL (K := K) (σ := [some (.ref a0), some (.ref a1), o2, some (.ref p), o4, o5, o6, o7]) (B := Bj) (H := H') (tl := tVar 0) (xs := ns.map PyData.int) (j := 6) (vs := [6]) (tt := tYes) (te := tTup (tCons (tVar 6) (tCons (tCB (rTupA K) (tCons (tDGet (tVar 3) (tVar 6)) tNil)) tNil))) (fun _ => true) (fun d => .tuple [d, .tuple ((scrMap cs (itemI d)).map PyData.int)]) (ev_var rfl ((h0.mono l1.b).mono ej)) (by rw [List.length_map]; omega) (fun d v B1 H1 l hd hv => et_yes) (fun d v B1 H1 l hd hv _ => by
            obtain ⟨n, hn, rfl⟩ := List.mem_map.mp hd
            cases hv
            have xl := xj.pure l
            intro B3 H3 l3 Q q
            have x3 := xl.pure l3
            obtain ⟨u, r, hu1, hu2, hu3, hu4, hu5, hu6⟩ := x3.at hn
            refine ⟨.int n, rfl, ?_⟩
            refine ⟨.ref p, rfl, .int n, rfl, p, .ref r, rfl, by have g := DGet.k (k := (.inl n : Key)) x3.has; rw [hu6] at g; exact g, ?_⟩
            refine ⟨r, _, rfl, .inl ⟨.inl (.inl hu4), fun t ht => ?_⟩⟩
            refine ⟨by show 2 ≤ sizeLine; omega, fun T hT => ?_⟩
            have ln := Le.new (M := []) (o := .tup ((scrMap cs n).map V.int)) l3.h ht
            have lm := Le.new (M := []) (o := .tup [.int n, .ref t]) ln.h hT
            refine q (.ref T) _ _ (ln.trans lm) (.tup (.inl (.inl upd_same)) (.cons (.int n) (.cons ?_ .nil)))
            exact (Dq.tup (K := K) (.inl (.inl upd_same)) (dqInts _)).mono lm.b) (fun _ => rfl)
          rw [filter_true, List.map_map] at cmp
          dsimp only
          refine a_ret (a_cb (a_cons ?_))
          refine cmp Bj H' (Le.refl lj.h) _ fun u B2 H2 l2 hu2 => ?_
          cases hu2 with
          | lst hs2 hq2 =>
            rename_i a2 xs2
            obtain ⟨ps, ys, e1, e2, e3, e4⟩ := pairs_of (F := fun n => .tuple ((scrMap cs n).map PyData.int)) (ns := ns) hq2
            subst e1
            have e4' : Paired (fun p kv => SqT K H2 p [kV kv.1, kv.2]) ps (kvsOf ns ys) := by
              have : ∀ {ps : List Addr} {kvs : List (Key × V)}, Paired (fun p kv => SqT K B2 p [kV kv.1, kv.2]) ps kvs → Paired (fun p kv => SqT K H2 p [kV kv.1, kv.2]) ps kvs := by
                intro ps kvs h
                induction h with
                | nil => exact .nil
                | cons h _ ih => exact .cons (Evl.ex_t l2.h h) ih
              exact this e4
            refine ⟨a2, ps, kvsOf ns ys, rfl, .inl (.inl (l2.h _ _ hs2)), e4', fun z hzn => ?_⟩
            rw [merge_new hnd (fun n hn => rfl) e2, List.nil_append]
            have ln := Le.new (M := []) (o := .dK (kvsOf ns ys)) l2.h hzn
            have hd := Dq.dct (K := K) (H := upd B2 z (.dK (kvsOf ns ys))) (a := z) (kvs := kvsOf ns ys) (ds := ns.map fun n => .tuple ((scrMap cs n).map PyData.int)) upd_same (by rw [kvs_snd e2]; exact e3.mono ln.b)
            rw [kvs_zip e2] at hd
            exact k (.ref z) _ _ ((lj.trans l2).trans ln) ⟨z, rfl, (lj.trans l2).back hzn⟩ hd
end
end K34

set_option maxRecDepth 100000
set_option maxHeartbeats 2000000
namespace K34
open PySem PySem.Spec PyProof.Rows L2 MA
/-! changed effects are effects -/
theorem split2 {ns : List Int} {a b : Int} (nd : ns.Nodup) (ha : a ∈ ns) (hb : b ∈ ns) (hne : a ≠ b) : ∃ rest, ns.Perm (a :: b :: rest) ∧ a ∉ rest ∧ b ∉ rest := by
  have p1 := List.perm_cons_erase ha
  have hb2 : b ∈ ns.erase a := (List.mem_erase_of_ne (Ne.symm hne)).mpr hb
  have p2 := List.perm_cons_erase hb2
  refine ⟨(ns.erase a).erase b, p1.trans (p2.cons a), ?_, ?_⟩
  · have n1 := p1.nodup_iff.mp nd
    exact fun h => (List.nodup_cons.mp n1).1 (List.mem_of_mem_erase h)
  · have n2 := p2.nodup_iff.mp ((List.nodup_cons.mp (p1.nodup_iff.mp nd)).2)
    exact (List.nodup_cons.mp n2).1
theorem flat_same {f g : Int → List Int} : ∀ {l : List Int}, (∀ x ∈ l, f x = g x) → l.flatMap f = l.flatMap g := fun {l} h => by
  rw [List.flatMap_def, List.flatMap_def, List.map_congr_left h]
theorem two_perm {ns : List Int} {a b : Int} {m m' : Int → List Int} (nd : ns.Nodup) (ha : a ∈ ns) (hb : b ∈ ns) (hne : a ≠ b) (hk : ∀ k, k ≠ a → k ≠ b → m' k = m k) (hab : (m' a ++ m' b).Perm (m a ++ m b)) : (ns.flatMap m').Perm (ns.flatMap m) := by
  obtain ⟨rest, p, h1, h2⟩ := split2 nd ha hb hne
  refine (p.flatMap_right m').trans (List.Perm.trans ?_ (p.flatMap_right m).symm)
  rw [List.flatMap_cons, List.flatMap_cons, List.flatMap_cons, List.flatMap_cons, ← List.append_assoc, ← List.append_assoc]
  rw [flat_same (f := m') (g := m) fun x hx => hk x (fun z => h1 (z ▸ hx)) (fun z => h2 (z ▸ hx))]
  exact hab.append_right _
theorem one_perm {ns : List Int} {a : Int} {m m' : Int → List Int} (nd : ns.Nodup) (ha : a ∈ ns) (hk : ∀ k, k ≠ a → m' k = m k) (hab : (m' a).Perm (m a)) : (ns.flatMap m').Perm (ns.flatMap m) := by
  have p := List.perm_cons_erase ha
  refine (p.flatMap_right m').trans (List.Perm.trans ?_ (p.flatMap_right m).symm)
  rw [List.flatMap_cons, List.flatMap_cons]
  rw [flat_same (f := m') (g := m) fun x hx => hk x fun z => (List.nodup_cons.mp (p.nodup_iff.mp nd)).1 (by rw [z] at hx; exact hx)]
  exact hab.append_right _
/-- two blocks exchanged: found[a], found[b] = found[b], found[a] -/
def swapM (a b : Int) (m : Int → List Int) (k : Int) : List Int := if k = b then m a else if k = a then m b else m k
theorem EffV.swap {ns : List Int} {m : Int → List Int} {a b : Int} (V : EffV ns m) (ha : a ∈ ns) (hb : b ∈ ns) : EffV ns (swapM a b m) := by
  refine ⟨V.nd, V.one, V.len, V.i60, List.Perm.trans ?_ V.perm⟩
  by_cases z : a = b
  · subst z
    rw [flat_same (f := swapM a a m) (g := m) fun x _ => by
      unfold swapM
      by_cases y : x = a
      · rw [if_pos y, y]
      · rw [if_neg y, if_neg y]]
  · refine two_perm V.nd ha hb z (fun k h1 h2 => by unfold swapM; rw [if_neg h2, if_neg h1]) ?_
    unfold swapM
    rw [if_neg z, if_pos rfl, if_pos rfl]
    exact List.perm_append_comm
/-- a block turned round -/
def turnM (a : Int) (m : Int → List Int) (k : Int) : List Int := if k = a then (m a).reverse else m k
theorem EffV.turn {ns : List Int} {m : Int → List Int} {a : Int} (V : EffV ns m) (ha : a ∈ ns) : EffV ns (turnM a m) :=
  ⟨V.nd, V.one, V.len, V.i60, (one_perm V.nd ha (fun k h => if_neg h) (by show (if a = a then (m a).reverse else m a).Perm (m a); rw [if_pos rfl]; exact List.reverse_perm _)).trans V.perm⟩
/-- the last item of a block put into an empty one -/
def giveM (a b : Int) (m : Int → List Int) (k : Int) : List Int := if k = b then (m a).drop ((m a).length - 1) else if k = a then (m a).dropLast else m k
theorem EffV.give {ns : List Int} {m : Int → List Int} {a b : Int} (V : EffV ns m) (ha : a ∈ ns) (hb : b ∈ ns) (hne : a ≠ b) (he : m b = []) : EffV ns (giveM a b m) := by
  refine ⟨V.nd, V.one, V.len, V.i60, (two_perm V.nd ha hb hne (fun k h1 h2 => by unfold giveM; rw [if_neg h2, if_neg h1]) ?_).trans V.perm⟩
  unfold giveM
  rw [if_neg hne, if_pos rfl, if_pos rfl, he, List.append_nil]
  have : (m a).dropLast ++ (m a).drop ((m a).length - 1) = m a := by
    rw [List.dropLast_eq_take]
    exact List.take_append_drop _ _
  rw [this]
end K34

set_option maxRecDepth 100000
set_option maxHeartbeats 8000000
namespace K34
open PySem PySem.Spec PyProof.Rows L2 MA
abbrev tupI (m : Int → List Int) : Int → PyData := fun n => .tuple ((m n).map PyData.int)
section
variable {P : Program} {w : World} {K : PySem.W.Frag} {mg : PySem.Str → Option Value} {base : Heap}
/-- an effect with something changed -/
abbrev ChgS (K : PySem.W.Frag) : Sp := Bw K 100 (fun ds => ∃ ns m, ds = [effT ns m] ∧ EffV ns m) fun ds d => ∃ ns m m', ds = [effT ns m] ∧ d = effT ns m' ∧ EffV ns m'
theorem ok_law_changed (D : Df K mg "_law_changed" s__law_changed ["jug", "effect_here"]) (C__law_drop : Cl P w K mg base CX0 1 "_law_drop" ["jug", "many"] (PailS K)) (z_dict : mg "dict" = none) (z_list : mg "list" = none) (z_len : mg "len" = none) :
    Cl P w K mg base CX0 2 "_law_changed" ["jug", "effect_here"] (ChgS K) :=
  Cl.of D sc__law_changed (bw_len (n := 1) fun ds h => by obtain ⟨ns, m, rfl, _⟩ := h; rfl) fun f cdv A outer s H vs Q E hr h => by
    obtain ⟨g, us, B, ds, m0, rfl, e, hw, hm, hq, ⟨ns, m, rfl, V0⟩, q⟩ := h
    obtain ⟨v1, rfl, hv1⟩ := dq1 hq
    have hu := hr.units0
    have hu1 := hu_of hr
    have hu64 : (cxOf CX0 P w K mg base N__law_changed "_law_changed" (defScope s__law_changed) f cdv A outer s H E).nox.A.units + 64 < cLine := hr.units
    refine ⟨_, (pss_cons (ps_asg (pe_tup (pa_cons (pe_callTy call_dictD (by rfl) z_dict (by decide +kernel) (pa_cons (pv 1) pa_nil)) (pa_cons (pe_callTy (call_listD rfl) (by rfl) z_list (by decide +kernel) (pa_cons (pv 1) pa_nil)) pa_nil))) (pg_tup rfl (pgs_cons (pg_name (i := 2) sc__law_changed.nd rfl (.inr rfl)) (pgs_cons (pg_name (i := 3) sc__law_changed.nd rfl (.inl rfl)) pgs_nil)))) (pss_cons (ps_par (i := 4) (j := 5) rfl sc__law_changed.nd rfl rfl (by decide) rfl rfl (pa_cons (pe_ix ix_seq (pv 3) (pe_callC C__law_drop (hr.mono (by decide)) (by rfl) pass0 (pa_cons (pv 0) (pa_cons (pe_callB call_len_seq (by rfl) z_len PySem.boot_len (pa_cons (pv 3) pa_nil)) pa_nil))) (fun _ _ => rfl)) (pa_cons (pe_ix ix_seq (pv 3) (pe_callC C__law_drop (hr.mono (by decide)) (by rfl) pass0 (pa_cons (pv 0) (pa_cons (pe_callB call_len_seq (by rfl) z_len PySem.boot_len (pa_cons (pv 3) pa_nil)) pa_nil))) (fun _ _ => rfl)) pa_nil)) rfl) (pss_cons (ps_par (i := 7) (j := 8) rfl sc__law_changed.nd rfl rfl (by decide) rfl rfl (pa_cons (pe_callC C__law_drop (hr.mono (by decide)) (by rfl) pass0 (pa_cons (pv 0) (pa_cons pe_int pa_nil))) (pa_cons (pe_lc (own := [("key", 6)]) (tt := (tTest (tOp (rEqD K) (tDGet (tVar 2) (tVar 6)) (tTup tNil)))) (te := (tVar 6)) rfl sc__law_changed.nd (pi_list (pv 3)) (blkOk_by (N := N__law_changed) (sc := defScope s__law_changed) (by decide +kernel)) (fun _ _ _ _ _ => (pg_name (i := 6) sc__law_changed.nd rfl (.inl rfl))) (fun _ _ _ _ _ => (pts_one (pt_cmpR (op_eqD hu64) (pe_dget hu1 (pv 2) (pv 6) (fun _ _ => rfl)) (pe_tup pa_nil) (nomark _)))) (fun _ _ _ _ _ => (pv 6))) pa_nil)) rfl) (pss_cons (ps_if (pt_cmpR (op_eqA hu) (pv 7) pe_int (nomark _)) (pss_one (ps_asg (pe_tup (pa_cons (pe_dget hu1 (pv 2) (pv 5) (fun _ _ => rfl)) (pa_cons (pe_dget hu1 (pv 2) (pv 4) (fun _ _ => rfl)) pa_nil))) (pg_tup rfl (pgs_cons (pg_sub (pv 2) (pv 4) (set_dict hu1)) (pgs_cons (pg_sub (pv 2) (pv 5) (set_dict hu1)) pgs_nil))))) pss_nil) (pss_cons (ps_if (pt_cmpR (op_eqA hu) (pv 7) pe_int (nomark _)) (pss_one (ps_asg (pe_backT (pe_dget hu1 (pv 2) (pv 4) (fun _ _ => rfl))) (pg_sub (pv 2) (pv 4) (set_dict hu1)))) pss_nil) (pss_cons (ps_if (pt_cmpR (op_eqA hu) (pv 7) pe_int (nomark _)) (pss_one (ps_for PassesOwn.never rfl (pi_list (pv 8)) (pg_name (i := 6) sc__law_changed.nd rfl (.inl rfl)) (pss_cons (ps_setLc (i := 10) (own := [("other", 9)]) (tt := (tTest (tOp (rI0 fun i j => .bl (decide (j < i))) (tCB (rLenA K) (tCons (tDGet (tVar 2) (tVar 9)) tNil)) (tC (.int 1))))) (te := (tVar 9)) rfl sc__law_changed.nd rfl rfl (sw_true rfl rfl rfl (by decide +kernel)) (pi_list (pv 3)) (blkOk_by (N := N__law_changed) (sc := defScope s__law_changed) (by decide +kernel)) (fun _ _ _ _ _ => (pg_name (i := 9) sc__law_changed.nd rfl (.inl rfl))) (fun _ _ _ _ _ => (pts_one (pt_cmpR op_gt (pe_callB call_len_seq (by rfl) z_len PySem.boot_len (pa_cons (pe_dget hu1 (pv 2) (pv 9) (fun _ _ => rfl)) pa_nil)) pe_int (nomark _)))) (fun _ _ _ _ _ => (pv 9))) (pss_cons (ps_set (i := 11) sc__law_changed.nd rfl (.inl rfl) (pe_ifExp (pt_cmpR (op_neA hu) (pv 10) (pe_lst pa_nil) (nomark _)) (pe_dget hu1 (pv 2) (pe_ix ix_seq (pv 10) (pe_callC C__law_drop (hr.mono (by decide)) (by rfl) pass0 (pa_cons (pv 0) (pa_cons (pe_callB call_len_seq (by rfl) z_len PySem.boot_len (pa_cons (pv 10) pa_nil)) pa_nil))) (fun _ _ => rfl)) (fun _ _ => rfl)) (pe_tup pa_nil))) (pss_cons (ps_for PassesOwn.never rfl (pi_list (pv 10)) (pg_name (i := 9) sc__law_changed.nd rfl (.inl rfl)) (pss_one (ps_if (pt_cmpR (op_eqD hu64) (pe_dget hu1 (pv 2) (pv 9) (fun _ _ => rfl)) (pv 11) (nomark _)) (pss_one (ps_asg (pe_slice sl_any (pv 11) po_none (po_some (pe_un un_neg pe_int))) (pg_sub (pv 2) (pv 9) (set_dict hu1)))) pss_nil))) (pss_one (ps_asg (pe_slice sl_any (pv 11) (po_some (pe_un un_neg pe_int)) po_none) (pg_sub (pv 2) (pv 6) (set_dict hu1))))))))) pss_nil) (pss_one (ps_ret (pv 2))))))))), ?_⟩
    have n60 := V0.len
    have n1 := V0.one
    have s100 : 0 ≤ sizeLine := Nat.zero_le _
    -- found, keys
    refine q_tupG ?_
    refine od_copy (K := K) (σ := L2.start N__law_changed [.ref g, v1]) (ns := ns) (F := tupI m) (te := tVar 1) (ev_var rfl hv1) e V0.nd fun p B1 H1 l1 hp x1 => ?_
    have hpg := hw.ne hp
    have w1 := hw.pure l1
    refine (ev_cb (K := K) (ea_cons (ev_var (K := K) (i := 1) (σ := L2.start N__law_changed [.ref g, v1]) (B := B1) (H := H1) rfl (hv1.mono l1.b)) ea_nil) rc_listDM) B1 H1 (Le.refl l1.h) _ fun v3 B1' H1' l2' hv3' => ?_
    refine ⟨size_ok (by show 2 ≤ 100000; decide), fun tt htt => ?_⟩
    refine ⟨tt, [_, _], rfl, .inl (.inl upd_same), rfl, _, [_], rfl, _, [], rfl, rfl, ?_⟩
    have lt := Le.new (M := []) (o := .tup [.ref p, v3]) l2'.h htt
    have l2 := l2'.trans lt
    have hv3 := hv3'.mono lt.b
    have x2 := x1.pure l2 (by simp)
    have w2 := w1.pure l2
    generalize hB2 : upd B1' tt (.tup [.ref p, v3]) = B2 at *
    generalize hH2 : upd H1' tt (.tup [.ref p, v3]) = H2 at *
    -- one, two
    refine q_parM ?_
    refine ew_pickL (K := K) (g := g) (ns := ns) (i := 3) (j := 0) (σ := [some (.ref g), some v1, some (.ref p), some v3, none, none, none, none, none, none, none, none]) rfl rfl hv3 n1 (by omega) m0 B2 H2 (by omega) (Le.refl l2.h) w2 _ ?_
    rintro d v4 B3 H3 ⟨a, rfl, ha⟩ l3 w3 hv4
    cases hv4
    refine ew_pickL (K := K) (g := g) (ns := ns) (i := 3) (j := 0) (σ := [some (.ref g), some v1, some (.ref p), some v3, none, none, none, none, none, none, none, none]) rfl rfl (hv3.mono l3.b) n1 (by omega) (m0 + 1) B3 H3 (by omega) (Le.refl l3.h) w3 _ ?_
    rintro d v5 B4 H4 ⟨b, rfl, hb⟩ l4 w4 hv5
    cases hv5
    refine ⟨_, _, rfl, ?_⟩
    have x4 := (x2.pure l3 (by simp [hpg])).pure l4 (by simp [hpg])
    -- way, lone
    refine q_parM ?_
    refine ew_pailC (K := K) (g := g) (n := 3) (i := 0) rfl (fun _ _ _ => ev_c (.int 3)) (by decide) (by decide) (m0 + 1 + 1) B4 H4 (by omega) (Le.refl l4.h) w4 _ ?_
    rintro d v7 B5 H5 ⟨way, rfl, y0, y1⟩ l5 w5 hv7
    cases hv7
    have x5 := x4.pure l5 (by simp [hpg])
    have hv35 := ((hv3.mono l3.b).mono l4.b).mono l5.b
    have c1 := ev_compI (K := K) (σ := [some (.ref g), some v1, some (.ref p), some v3, some (.int a), some (.int b), none, none, none, none, none, none]) (B := B5) (H := H5) (tl := tVar 3) (ns := ns) (j := 6) (vs := [6]) (tt := tTest (tOp (rEqD K) (tDGet (tVar 2) (tVar 6)) (tTup tNil))) (fun n => decide (m n = [])) (ev_var rfl hv35) (by omega) (fun n hn B' H' l => et_test (ev_op ((x5.pure l (by simp)).get rfl rfl hn) (ev_tup ea_nil s100) (rv_eqTD (bs := []))))
    refine c1 B5 H5 (Le.refl l5.h) _ fun v8 B6 H6 l6 hv8 => ?_
    refine ⟨_, _, rfl, ?_⟩
    generalize hlo : (ns.filter fun n => decide (m n = [])) = lone at hv8
    have lnd : lone.Nodup := by rw [← hlo]; exact V0.nd.filter _
    have lns : ∀ k ∈ lone, k ∈ ns := fun k hk => by rw [← hlo] at hk; exact (List.mem_filter.mp hk).1
    have lem : ∀ k ∈ lone, m k = [] := fun k hk => by rw [← hlo] at hk; exact of_decide_eq_true (List.mem_filter.mp hk).2
    have lln : lone.length ≤ 60 := by rw [← hlo]; exact Nat.le_trans (List.length_filter_le _ _) n60
    clear c1
    have x6 := x5.pure l6 (by simp)
    have w6 := w5.pure l6
    have lg : Le [p, g] B1 H1 B6 H6 := (l2.any.trans ((l3.trans l4).trans l5 |>.wk (by simp))).trans l6.any
    have hv36 := hv35.mono l6.b
    clear x1 x2 x4 x5 w1 w2 w3 w4 w5 hv3 hv35
    -- found[one], found[two] = found[two], found[one]
    refine q_whenM [p, g] (k := decide (way = 0)) (fun σ' B' H' => ∃ m', σ' = [some (.ref g), some v1, some (.ref p), some v3, some (.int a), some (.int b), none, some (.int way), some v8, none, none, none] ∧ OD K p ns (tupI m') B' H' ∧ Wl g (m0 + 3) B' H' ∧ EffV ns m' ∧ (way ≠ 0 → m' = m)) (et_test (ev_op (ev_var (K := K) (i := 7) rfl (.int way)) (ev_c (.int 0)) rv_eqI)) l6.h (fun hk B' H' l N hN => ?_) (fun hk B' H' l => ⟨m, rfl, x6.pure l (by simp), (w6.pure l), V0, fun _ => rfl⟩) ?_
    · refine s_dswap (K := K) (x6.pure l (by simp)) (by omega) l.h ha hb rfl rfl rfl fun B2 H2 l2 x2 => ?_
      refine hN _ B2 H2 (l2.wk (by simp)) ⟨swapM a b m, rfl, x2.congr fun n hn => ?_, (w6.pure l).other l2 hpg, V0.swap ha hb, fun h => absurd (of_decide_eq_true hk) h⟩
      show (if n = b then tupI m a else if n = a then tupI m b else tupI m n) = tupI (swapM a b m) n
      unfold swapM tupI
      dsimp only
      split
      · rfl
      · split <;> rfl
    rintro _ B7 H7 l7 ⟨m1, rfl, x7, w7, V1, e1⟩
    -- found[one] = found[one][::-1]
    refine q_whenM [p, g] (k := decide (way = 1)) (fun σ' B' H' => ∃ m', σ' = [some (.ref g), some v1, some (.ref p), some v3, some (.int a), some (.int b), none, some (.int way), some v8, none, none, none] ∧ OD K p ns (tupI m') B' H' ∧ Wl g (m0 + 3) B' H' ∧ EffV ns m' ∧ (way ≠ 0 → way ≠ 1 → m' = m)) (et_test (ev_op (ev_var (K := K) (i := 7) rfl (.int way)) (ev_c (.int 1)) rv_eqI)) l7.h (fun hk B' H' l N hN => ?_) (fun hk B' H' l => ⟨m1, rfl, x7.pure l (by simp), (w7.pure l), V1, fun h _ => e1 h⟩) ?_
    · have x8 := x7.pure l (by simp)
      have bk := ev_back (K := K) (x8.get (σ := [some (.ref g), some v1, some (.ref p), some v3, some (.int a), some (.int b), none, some (.int way), some v8, none, none, none]) (i := 2) (j := 4) rfl rfl ha)
      refine q_dput (K := K) (tz := tNext) x8 (by omega) l.h bk rfl rfl fun Ba Ha la H2 l2 x2 => ?_
      rw [if_pos ha] at x2
      refine hN _ Ba H2 (l2.wk (by simp)) ⟨turnM a m1, rfl, x2.congr fun n hn => ?_, (w7.pure l).other l2 hpg, V1.turn ha, fun _ h => absurd (of_decide_eq_true hk) h⟩
      show (if n = a then PyData.tuple ((m1 a).map PyData.int).reverse else tupI m1 n) = tupI (turnM a m1) n
      unfold turnM tupI
      dsimp only
      split
      · rw [List.map_reverse]
      · rfl
    rintro _ B8 H8 l8 ⟨m2, rfl, x8, w8, V2, e2⟩
    -- every empty block gets an item of a longer one
    have hv38 := (hv36.mono l7.b).mono l8.b
    have hv88 := (hv8.mono l7.b).mono l8.b
    refine q_whenM [p, g] (k := decide (way = 2)) (fun σ' B' H' => ∃ m' o6 o9 o10 o11, σ' = [some (.ref g), some v1, some (.ref p), some v3, some (.int a), some (.int b), o6, some (.int way), some v8, o9, o10, o11] ∧ OD K p ns (tupI m') B' H' ∧ Wl g (m0 + 70) B' H' ∧ EffV ns m') (et_test (ev_op (ev_var (K := K) (i := 7) rfl (.int way)) (ev_c (.int 2)) rv_eqI)) l8.h (fun hk B9 H9 l9 N hN => ?_) (fun hk B' H' l => ⟨m2, none, none, none, none, rfl, x8.pure l (by simp), (w8.pure l).mono (by omega), V2⟩) ?_
    · have hm2 : m2 = m := e2 (by have := of_decide_eq_true hk; omega) (by have := of_decide_eq_true hk; omega)
      subst hm2
      refine s_forM (K := K) [p, g] (xs := lone.map PyData.int) (ev_var rfl (hv88.mono l9.b)) l9.h (fun t σ' B' H' => ∃ mt o6 o9 o10 o11, σ' = [some (.ref g), some v1, some (.ref p), some v3, some (.int a), some (.int b), o6, some (.int way), some v8, o9, o10, o11] ∧ OD K p ns (tupI mt) B' H' ∧ Wl g (m0 + 3 + t) B' H' ∧ EffV ns mt ∧ ∀ n ∈ lone.drop t, mt n = [])
        (fun B' H' l => ⟨m2, none, none, none, none, rfl, (x8.pure l9 (by simp)).pure l (by simp), (w8.pure l9).pure l, V2, fun n hn => lem n (List.mem_of_mem_drop hn)⟩) ?_ ?_
      · rintro t d v σ' Ba Ha N2 la hd hv ⟨mt, o6, o9, o10, o11, rfl, xa, wa, Va, he⟩ hN2
        rw [List.getElem?_map] at hd
        obtain ⟨key, hkey, rfl⟩ := Option.map_eq_some_iff.mp hd
        cases hv
        have tlt := (List.getElem?_eq_some_iff.mp hkey).1
        have hkn : key ∈ ns := lns key (List.mem_of_getElem? hkey)
        have hke : mt key = [] := he key (by
          rw [List.drop_eq_getElem_cons tlt, (List.getElem?_eq_some_iff.mp hkey).2]
          exact List.mem_cons_self ..)
        have hv3a := (hv38.mono l9.b).mono la.b
        have c2 := ev_compI (K := K) (σ := [some (.ref g), some v1, some (.ref p), some v3, some (.int a), some (.int b), some (.int key), some (.int way), some v8, o9, o10, o11]) (B := Ba) (H := Ha) (tl := tVar 3) (ns := ns) (j := 9) (vs := [9]) (tt := tTest (tOp (rI0 fun i j => .bl (decide (j < i))) (tCB (rLenA K) (tCons (tDGet (tVar 2) (tVar 9)) tNil)) (tC (.int 1)))) (fun n => decide (1 < (mt n).length)) (ev_var rfl hv3a) (by omega) (fun n hn B' H' l => by
          have c := rv_cmp (K := K) (g := fun i j => decide (j < i)) (i := (((mt n).length : Nat) : Int)) (j := 1)
          have ln := rc_lenT (K := K) (ds := (mt n).map PyData.int)
          rw [List.length_map] at ln
          rw [show decide (1 < (mt n).length) = decide ((1 : Int) < (((mt n).length : Nat) : Int)) by congr 1; exact propext ⟨fun h => by omega, fun h => by omega⟩]
          exact et_test (ev_op (ev_cb (ea_cons ((xa.pure l (by simp)).get (i := 2) (j := 9) rfl rfl hn) ea_nil) ln) (ev_c (.int 1)) c))
        refine q_set (K := K) (i := 10) c2 la.h fun v10 Bb Hb lb hv10 => ?_
        clear c2
        generalize hri : (ns.filter fun n => decide (1 < (mt n).length)) = rich at hv10
        have rnd : rich.Nodup := by rw [← hri]; exact V0.nd.filter _
        have rns : ∀ k ∈ rich, k ∈ ns := fun k hk => by rw [← hri] at hk; exact (List.mem_filter.mp hk).1
        have rlo : ∀ k ∈ rich, 1 < (mt k).length := fun k hk => by rw [← hri] at hk; exact of_decide_eq_true (List.mem_filter.mp hk).2
        have rln : rich.length ≤ 60 := by rw [← hri]; exact Nat.le_trans (List.length_filter_le _ _) n60
        have xb := xa.pure lb (by simp)
        have wb := wa.pure lb
        -- row
        refine w_set (K := K) (g := g) (c := 1) (m := m0 + 3 + t) (R := fun d => ∃ r : List Int, d = .tuple (r.map PyData.int) ∧ ((rich = [] ∧ r = []) ∨ ∃ u ∈ rich, r = mt u)) (ew_ifE (k := !(rich.map PyData.int).isEmpty) (fun B' H' l => et_test (ev_op (ev_var (i := 10) rfl (hv10.mono l.b)) (ev_lst ea_nil s100) rv_neL0)) (fun hk => ?_) (fun hk => ?_)) (by omega) lb.h wb ?_
        · have rpos : 1 ≤ rich.length := by
            cases hr : rich with
            | nil => rw [hr] at hk; cases hk
            | cons _ _ => simp
          exact (ew_dgetO (K := K) (P := fun r => r ∈ rich) (i := 2) xb hpg rfl (ew_pickL (K := K) (ns := rich) (i := 10) (j := 0) rfl rfl hv10 rpos (by omega)) rns).imp fun d h => by
            obtain ⟨k, hk, rfl⟩ := h
            exact ⟨mt k, rfl, .inr ⟨k, hk, rfl⟩⟩
        · have r0 : rich = [] := by
            cases hr : rich with
            | nil => rfl
            | cons _ _ => rw [hr] at hk; cases hk
          exact Ew.wk ((ew_of fun B' H' l => ev_tup ea_nil s100).imp fun d h => ⟨[], h, .inl ⟨r0, rfl⟩⟩) (by decide)
        rintro d vr Bc Hc ⟨r, rfl, hr⟩ lc wc hvr
        have xc := xb.pure lc (by simp [hpg])
        -- for other in rich
        refine q_forM (K := K) [p] (xs := rich.map PyData.int) (ev_var (i := 10) rfl (hv10.mono lc.b)) lc.h (fun s σ' B' H' => ∃ o9, σ' = [some (.ref g), some v1, some (.ref p), some v3, some (.int a), some (.int b), some (.int key), some (.int way), some v8, o9, some v10, some vr] ∧ OD K p ns (fun k => .tuple ((if k ∈ rich.take s ∧ mt k = r then r.dropLast else mt k).map PyData.int)) B' H')
          (fun B' H' l => ⟨o9, rfl, (xc.pure l (by simp)).congr fun n hn => by simp⟩) ?_ ?_
        · rintro s d v σ' Bd Hd N3 ld hd3 hv ⟨o9, rfl, xd⟩ hN3
          rw [List.getElem?_map] at hd3
          obtain ⟨k, hk, rfl⟩ := Option.map_eq_some_iff.mp hd3
          cases hv
          have hkr := List.mem_of_getElem? hk
          have hkt : k ∉ rich.take s := nd_take rnd hk
          have gk := xd.get (σ := [some (.ref g), some v1, some (.ref p), some v3, some (.int a), some (.int b), some (.int key), some (.int way), some v8, some (.int k), some v10, some vr]) (i := 2) (j := 9) rfl rfl (rns k hkr)
          rw [if_neg (fun h => hkt h.1)] at gk
          have tk : ∀ z, z ∈ rich.take (s + 1) ↔ z ∈ rich.take s ∨ z = k := fun z => by rw [take_one hk, List.mem_append, List.mem_singleton]
          refine s_when (k := decide (mt k = r)) (et_test (ev_op gk (ev_var (i := 11) rfl (hvr.mono ld.b)) rv_eqTD)) ld.h (fun hy B2 H2 l2 => ?_) fun hy B2 H2 l2 => ?_
          · have hmr : mt k = r := of_decide_eq_true hy
            have sl := ev_sl (K := K) (σ := [some (.ref g), some v1, some (.ref p), some v3, some (.int a), some (.int b), some (.int key), some (.int way), some v8, some (.int k), some v10, some vr]) (B := B2) (H := H2) (ev_var (i := 11) rfl ((hvr.mono ld.b).mono l2.b)) eo_none (eo_some (K := K) ev_m1) rs_T
            rw [cut_m1] at sl
            refine q_dput (K := K) (tz := tNext) (xd.pure l2 (by simp)) (by omega) l2.h sl rfl rfl fun Be He le H5 l5 x5 => ?_
            rw [if_pos (rns k hkr)] at x5
            refine hN3 _ Be H5 (l2.any.trans l5) ⟨_, rfl, x5.congr fun z hz => ?_⟩
            by_cases y : z = k
            · subst y
              rw [if_pos rfl, if_pos ⟨(tk z).mpr (.inr rfl), hmr⟩]
            · rw [if_neg y]
              by_cases y2 : z ∈ rich.take s ∧ mt z = r
              · rw [if_pos y2, if_pos ⟨(tk z).mpr (.inl y2.1), y2.2⟩]
              · rw [if_neg y2, if_neg (fun h => ((tk z).mp h.1).elim (fun h1 => y2 ⟨h1, h.2⟩) y)]
          · have hmr : mt k ≠ r := of_decide_eq_false hy
            refine hN3 _ B2 H2 l2.any ⟨_, rfl, (xd.pure l2 (by simp)).congr fun z hz => ?_⟩
            by_cases y2 : z ∈ rich.take s ∧ mt z = r
            · rw [if_pos y2, if_pos ⟨(tk z).mpr (.inl y2.1), y2.2⟩]
            · rw [if_neg y2, if_neg (fun h => ((tk z).mp h.1).elim (fun h1 => y2 ⟨h1, h.2⟩) fun h1 => hmr (h1 ▸ h.2))]
        · rintro σ' Bd Hd ld ⟨o9, rfl, xd⟩
          rw [List.length_map, List.take_length] at xd
          have sl := ev_sl (K := K) (σ := [some (.ref g), some v1, some (.ref p), some v3, some (.int a), some (.int b), some (.int key), some (.int way), some v8, o9, some v10, some vr]) (B := Bd) (H := Hd) (ev_var (i := 11) rfl (hvr.mono ld.b)) (eo_some (K := K) ev_m1) eo_none rs_T
          rw [cut_l1] at sl
          refine q_dput (K := K) (tz := tNext) xd (by omega) ld.h sl rfl rfl fun Be He le H5 l5 x5 => ?_
          rw [if_pos hkn] at x5
          have wd := (wc.other ld hpg).other l5 hpg
          have fin : Le [p, g] Ba Ha Be H5 := ((lb.any.trans (lc.wk (by simp))).trans (ld.wk (by simp))).trans (l5.wk (by simp))
          have he2 : ∀ z ∈ lone.drop (t + 1), z ≠ key ∧ mt z = [] := fun z hz => by
            refine ⟨fun y => ?_, he z (by rw [List.drop_eq_getElem_cons tlt]; exact List.mem_cons_of_mem _ hz)⟩
            have nd2 : (lone.drop t).Nodup := lnd.sublist (List.drop_sublist _ _)
            rw [List.drop_eq_getElem_cons tlt, (List.getElem?_eq_some_iff.mp hkey).2] at nd2
            exact (List.nodup_cons.mp nd2).1 (y ▸ hz)
          rcases hr with ⟨r0, rfl⟩ | ⟨u, hu2, rfl⟩
          · refine hN2 _ Be H5 fin ⟨mt, _, _, _, _, rfl, x5.congr fun z hz => ?_, wd.mono (by omega), Va, fun z hz => (he2 z hz).2⟩
            by_cases y : z = key
            · rw [if_pos y, y]
              show _ = tupI mt key
              unfold tupI
              rw [hke]
              rfl
            · rw [if_neg y, if_neg (by rw [r0]; simp)]
          · have hul := rlo u hu2
            have hune : u ≠ key := fun y => by rw [y, hke] at hul; cases hul
            have fnd : (ns.flatMap mt).Nodup := Va.perm.nodup_iff.mpr Va.nd
            refine hN2 _ Be H5 fin ⟨giveM u key mt, _, _, _, _, rfl, x5.congr fun z hz => ?_, wd.mono (by omega), Va.give (rns u hu2) hkn hune hke, fun z hz => ?_⟩
            · show (if z = key then _ else _) = tupI (giveM u key mt) z
              unfold giveM tupI
              dsimp only
              by_cases y : z = key
              · rw [if_pos y, if_pos y]
              · rw [if_neg y, if_neg y]
                by_cases y2 : z = u
                · subst y2
                  rw [if_pos ⟨hu2, rfl⟩, if_pos rfl]
                · rw [if_neg y2, if_neg fun h => y2 ?_]
                  obtain ⟨i, hi⟩ : ∃ i, i ∈ mt u := List.exists_mem_of_length_pos (by omega)
                  exact mem_uniq fnd (rns z h.1) (rns u hu2) (by rw [h.2]; exact hi) hi
            · obtain ⟨z1, z2⟩ := he2 z hz
              unfold giveM
              rw [if_neg z1, if_neg (fun y => by rw [y] at z2; rw [z2] at hul; cases hul)]
              exact z2
      · rintro σ' Ba Ha la ⟨mt, o6, o9, o10, o11, rfl, xa, wa, Va, _⟩
        rw [List.length_map] at wa
        exact hN _ Ba Ha la ⟨mt, o6, o9, o10, o11, rfl, xa, wa.mono (by omega), Va⟩
    rintro _ B9 H9 l9 ⟨m3, o6, o9, o10, o11, rfl, x9, w9, V3⟩
    obtain ⟨o, ho, hd⟩ := x9.give
    have lz : Le [p, g] B H B9 H9 := (((l1.any.trans lg).trans l7).trans l8).trans l9
    refine ⟨.ref p, rfl, ?_⟩
    exact q (effT ns m3) ⟨ns, m, m3, rfl, rfl, V3⟩ (.ref p) _ H9 ((lz.give hp x9.own ho).local hp) ((w9.give hpg).mono (by omega)) hd
end
end K34

set_option maxRecDepth 100000
set_option maxHeartbeats 2000000
namespace MA
open PySem PySem.Spec PyProof.Rows L2
theorem perm_mapG {α β : Type} {f : α → β} : ∀ {ys zs : List β}, ys.Perm zs → ∀ xs : List α, zs = xs.map f → ∃ ws : List α, ys = ws.map f ∧ ws.Perm xs := fun h => by
  induction h with
  | nil => exact fun xs e => ⟨xs, e, .refl _⟩
  | cons x _ ih =>
    intro xs e
    cases xs with
    | nil => cases e
    | cons a xs =>
      injection e with e1 e2
      obtain ⟨ws, h1, h2⟩ := ih xs e2
      exact ⟨a :: ws, by rw [h1, e1]; rfl, h2.cons a⟩
  | swap x y l =>
    intro xs e
    match xs, e with
    | a :: b :: xs, e =>
      injection e with e1 e2
      injection e2 with e2 e3
      exact ⟨b :: a :: xs, by rw [e1, e2, e3]; rfl, List.Perm.swap a b xs⟩
  | trans _ _ ih1 ih2 =>
    intro xs e
    obtain ⟨ws, h1, h2⟩ := ih2 xs e
    obtain ⟨us, h3, h4⟩ := ih1 ws h1
    exact ⟨us, h3, h4.trans h2⟩
theorem fits_small {x : Int} (h0 : 0 ≤ x) (h1 : x ≤ 1000) : Builtin.Range.rangeFitsLong x = true := by
  unfold Builtin.Range.rangeFitsLong
  simp
  omega
theorem RgC.up {n c : Int} (h0 : 0 ≤ n) (h1 : n ≤ 100) (c0 : 1 ≤ c) (c1 : c ≤ 100) : RgC 0 n c (Builtin.Range.rangeSize 0 n c).toNat ∧ ∀ i : Nat, i < (Builtin.Range.rangeSize 0 n c).toNat → (i : Int) * c < n := by
  have hs : Builtin.Range.rangeSize 0 n c = if 0 < n then (n - 1) / c + 1 else 0 := by
    unfold Builtin.Range.rangeSize
    rw [if_pos (by omega)]
    simp
  have nn : 0 ≤ Builtin.Range.rangeSize 0 n c ∧ Builtin.Range.rangeSize 0 n c ≤ 101 := by
    rw [hs]
    split
    · have a1 := Int.ediv_nonneg (a := n - 1) (b := c) (by omega) (by omega)
      have a2 := Int.ediv_le_self (a := n - 1) c (by omega)
      omega
    · omega
  refine ⟨⟨by omega, by omega, ?_, by omega⟩, fun i hi => ?_⟩
  · unfold Builtin.Range.small
    rw [fits_small (x := 0) (by omega) (by omega), fits_small (x := n) h0 (by omega), fits_small (x := c) (by omega) (by omega), fits_small nn.1 (by omega), if_pos (by omega : c > 0), fits_small (x := n + (c - 1)) (by omega) (by omega)]
    simp
  · rw [hs] at hi
    split at hi
    · have a1 : (i : Int) ≤ (n - 1) / c := by omega
      have a2 := Int.mul_le_mul_of_nonneg_right a1 (show 0 ≤ c by omega)
      have a3 := Int.ediv_mul_le (n - 1) (show c ≠ 0 by omega)
      omega
    · simp at hi
section
variable {K : PySem.W.Frag} {g p : Addr} {σ : L2.St} {B H : Hp} {ta tb te : TE} {t : TT} {R : PyData → Prop} {a b c c' m : Nat}
theorem ew_ifD {S : Bool → Prop} (ht : EwT g c t σ B H S) (h1 : ∀ B1 H1, Le [g] B H B1 H1 → Ew K g c' ta σ B1 H1 R) (h2 : ∀ B1 H1, Le [g] B H B1 H1 → Ew K g c' tb σ B1 H1 R) : Ew K g (c + c') (tIf t ta tb) σ B H R := fun m B1 H1 hm l w Q q =>
  ht m B1 H1 (by omega) l w _ fun k B2 H2 _ l2 w2 => by
    cases k with
    | true => exact h1 B2 H2 (l.trans l2) (m + c) B2 H2 (by omega) (Le.refl l2.h) w2 Q fun d v B3 H3 r l3 w3 hv => q d v B3 H3 r (l2.trans l3) (w3.mono (by omega)) hv
    | false => exact h2 B2 H2 (l.trans l2) (m + c) B2 H2 (by omega) (Le.refl l2.h) w2 Q fun d v B3 H3 r l3 w3 hv => q d v B3 H3 r (l2.trans l3) (w3.mono (by omega)) hv
theorem ewt_cmp {f : Int → Int → Bool} {P1 P2 : Int → Prop} (ha : Ew K g a ta σ B H (RI P1)) (hb : Ew K g b tb σ B H (RI P2)) : EwT g (a + b) (tTest (tOp (rI0 fun i j => .bl (f i j)) ta tb)) σ B H fun _ => True := fun m B1 H1 hm l w Q q => by
  refine ha m B1 H1 (by omega) l w _ fun d v B2 H2 r l2 w2 hv => ?_
  obtain ⟨i, rfl, _⟩ := r
  cases hv
  refine hb (m + a) B2 H2 (by omega) (l.trans l2) w2 _ fun d v B3 H3 r l3 w3 hv => ?_
  obtain ⟨j, rfl, _⟩ := r
  cases hv
  exact ⟨i, j, rfl, rfl, f i j, rfl, q _ B3 H3 trivial (l2.trans l3) (w3.mono (by omega))⟩
/-- an item of a list of ours -/
theorem ev_ixOwn {i : Nat} {hs : List Int} {k y : Int} (hi : σ[i]? = some (some (.ref p))) (hp : H p = some (.lst (hs.map V.int))) (ht : Ev K te σ B H (.int k)) (hy : atI (hs.map V.int) k = some (.int y)) : Ev K (tOp (rIx K) (tVar i) te) σ B H (.int y) := fun B1 H1 l Q q =>
  ⟨.ref p, hi, ht B1 H1 l _ fun v B2 H2 l2 hv => by
    cases hv
    exact ix_own (l2.k p _ (by simp) (l.k p _ (by simp) hp)) hy (q _ B2 H2 l2 (.int y))⟩
/-- ys[k] = te, a list of ours -/
theorem w_setIx {i : Nat} {hs : List Int} {k : Int} {tk : TE} {P : Int → Prop} {D : Ends} (hi : σ[i]? = some (some (.ref p))) (hp : H p = some (.lst (hs.map V.int))) (hb : B p = none) (hpg : p ≠ g) (h : Ew K g c te σ B H (RI P)) (ht : ∀ B1 H1, Le [g] B H B1 H1 → Ev K tk σ B1 H1 (.int k)) (k0 : 0 ≤ k) (k1 : k < hs.length) (hm : m + c ≤ 1000000) (e : Ex B H) (w : Wl g m B H)
    (q : ∀ y B' H', P y → Le [p, g] B H B' H' → Wl g (m + c) B' H' → B' p = none → H' p = some (.lst ((hs.set k.toNat y).map V.int)) → D.nx σ H') : tAsg te (gSub (tVar i) tk rSetL) D σ H := by
  refine h m B H hm (Le.refl e) w _ fun d v B1 H1 r l1 w1 hv => ?_
  obtain ⟨y, rfl, hy⟩ := r
  cases hv
  refine ⟨.ref p, hi, ?_⟩
  refine ht B1 H1 l1 B1 H1 (Le.refl l1.h) _ fun u B2 H2 l2 hu => ?_
  cases hu
  have p1 := l1.k p _ (by simp [hpg]) hp
  have p2 := l2.k p _ (by simp) p1
  have b1 := l1.own hp hb
  have b2 := l2.own p1 b1
  refine ⟨p, _, k, k.toNat, rfl, rfl, p2, ?_, ?_⟩
  · rw [List.length_map]
    unfold ixN; rw [if_pos k0, if_pos (by omega)]
  · rw [← List.map_set (f := V.int)]
    exact q y B2 _ hy (((l1.wk (by simp)).trans l2.any).trans (Le.put l2.h b2 (by simp))) ((w1.pure l2).put hpg) b2 upd_same
theorem Wl.pureM {M : List Addr} {B' H' : Hp} (b : Wl g m B H) (l : Le M B H B' H') (hg : g ∉ M) : Wl g m B' H' := by
  obtain ⟨x, y, z, h, r⟩ := b.has
  exact ⟨l.own h b.own, x, y, z, l.k g _ hg h, r⟩
theorem ewt_eq {P1 P2 : Int → Prop} (ha : Ew K g a ta σ B H (RI P1)) (hb : Ew K g b tb σ B H (RI P2)) : EwT g (a + b) (tTest (tOp (rEqA K) ta tb)) σ B H fun k => ∃ i j, P1 i ∧ P2 j ∧ k = decide (i = j) := fun m B1 H1 hm l w Q q => by
  refine ha m B1 H1 (by omega) l w _ fun d v B2 H2 r l2 w2 hv => ?_
  obtain ⟨i, rfl, p1⟩ := r
  refine hb (m + a) B2 H2 (by omega) (l.trans l2) w2 _ fun d u B3 H3 r l3 w3 hu => ?_
  obtain ⟨j, rfl, p2⟩ := r
  refine rv_eqI (K := K) (i := i) (j := j) B3 H3 v u l3.h (hv.mono l3.b) hu _ fun o B4 H4 l4 ho => ?_
  cases ho
  exact ⟨_, rfl, q _ B4 H4 ⟨i, j, p1, p2, rfl⟩ ((l2.trans l3).trans l4.any) ((w3.pure l4).mono (by omega))⟩
theorem ewt_or {u : TT} {S1 S2 : Bool → Prop} (h1 : EwT g a t σ B H S1) (h2 : ∀ B1 H1, Le [g] B H B1 H1 → EwT g b u σ B1 H1 S2) : EwT g (a + b) (tOr t u) σ B H fun k => (k = false → S1 false) := fun m B1 H1 hm l w Q q => by
  refine h1 m B1 H1 (by omega) l w _ fun k B2 H2 s1 l2 w2 => ?_
  cases k with
  | true => exact q true B2 H2 (fun h => by cases h) l2 (w2.mono (by omega))
  | false => exact h2 B2 H2 (l.trans l2) (m + a) B2 H2 (by omega) (Le.refl l2.h) w2 _ fun k B3 H3 s2 l3 w3 => q k B3 H3 (fun _ => s1) (l2.trans l3) (w3.mono (by omega))
/-- an if without else, drawn in the test -/
theorem w_whenD {S : Bool → Prop} {D : Ends} {tu tz : TS} (h : EwT g c t σ B H S) (hm : m + c ≤ 1000000) (e : Ex B H) (w : Wl g m B H) (h1 : ∀ B' H', S true → Le [g] B H B' H' → Wl g (m + c) B' H' → tu { D with nx := tz D } σ H') (h2 : ∀ B' H', S false → Le [g] B H B' H' → Wl g (m + c) B' H' → tz D σ H') : tSeq (tIfS t tu tNext) tz D σ H :=
  h m B H hm (Le.refl e) w _ fun k B' H' s l w' => by
    cases k with
    | true => exact h1 B' H' s l w'
    | false => exact h2 B' H' s l w'
/-- a list of ints at hand -/
theorem ew_memL {ns : List Int} {i : Nat} {v : V} (hi : σ[i]? = some (some v)) (hv : Dq K B v (.list (ns.map PyData.int))) : Ew K g 0 (tVar i) σ B H (fun d => ∃ ds, d = .list ds ∧ AllR (RI fun r => r ∈ ns) ns.length ds) :=
  (ew_of fun B1 H1 l => ev_var hi (hv.mono l.b)).imp fun d h => ⟨_, h, List.length_map .., fun x hx => by
    obtain ⟨k, hk, rfl⟩ := List.mem_map.mp hx
    exact ⟨k, rfl, hk⟩⟩
/-- [(k, tuple(d[k])) for k in d], the rows ours -/
theorem ev_rowsT {ns : List Int} {rows : List Addr} {mm : Int → List Int} {i jk : Nat} {vs : List Nat} (x : SW K p ns rows mm B H) (hln : ns.length ≤ 1000) (hi : σ[i]? = some (some (.ref p)))
    (hi2 : ∀ z, ((wipe σ vs).set jk (some z))[i]? = some (some (.ref p))) (hk : ∀ z, ((wipe σ vs).set jk (some z))[jk]? = some (some z)) (hw : ∀ y, wipe ((wipe σ vs).set jk (some y)) vs = wipe σ vs) :
    Ev K (tLockE (tLc (iKeys (tVar i)) (gName jk) tYes (tTup (tCons (tVar jk) (tCons (tCB (rTupA K) (tCons (tDGet (tVar i) (tVar jk)) tNil)) tNil))) vs)) σ B H (.list (ns.map fun n => .tuple [.int n, .tuple ((mm n).map PyData.int)])) := by
  have z := ev_lcKeys (K := K) (σ := σ) (B := B) (H := H) (i := i) (jk := jk) (vs := vs) (tt := tYes) (te := tTup (tCons (tVar jk) (tCons (tCB (rTupA K) (tCons (tDGet (tVar i) (tVar jk)) tNil)) tNil))) (fun _ => true) (fun n => .tuple [.int n, .tuple ((mm n).map PyData.int)]) hi x.has x.keys hln (fun od B1 H1 l1 B2 H2 l2 n hn => et_yes) (fun od B1 H1 l1 B2 H2 l2 n hn _ => by
    obtain ⟨r, h1, h2, h3⟩ := x.locked l1 l2 hn
    refine ev_tup (ea_cons (ev_var (hk _) (.int n)) (ea_cons (fun B3 H3 l3 Q q => ?_) ea_nil)) (size_ok (by show 2 ≤ 100000; decide))
    refine h3 B3 H3 _ _ _ (fun a o h => l3.k a o (by simp) h) (hi2 _) (hk _) _ ?_
    refine ⟨r, _, rfl, .inl ⟨.inl (.inl (l3.k r _ (by simp) h1)), fun T hT => ?_⟩⟩
    exact q (.ref T) _ _ (Le.new l3.h hT) (.tup (.inl (.inl upd_same)) (dqInts _))) hw
  rw [List.filter_eq_self.mpr (fun _ _ => rfl)] at z
  exact z
/-- for k in range(lo, hi, c) -/
theorem q_forR3 {ts : TA} {lo hi st : Int} {n : Nat} {gg : TG} {tz tu : TS} {D : Ends} (M : List Addr) (ha : EvA K ts σ B H [.int lo, .int hi, .int st]) (e : Ex B H) (hr : RgC lo hi st n) (I : Nat → L2.St → Hp → Hp → Prop) (h0 : ∀ B1 H1, Le [] B H B1 H1 → I 0 σ B1 H1)
    (hs : ∀ (i : Nat) σ' B' H' N, Le M B H B' H' → i < n → I i σ' B' H' → (∀ σ3 B3 H3, Le M B' H' B3 H3 → I (i + 1) σ3 B3 H3 → N σ3 H3) → gg (.int (lo + (i : Nat) * st)) σ' H' fun σ2 H2 => tu { D with nx := N, ct := N, bk := tz D } σ2 H2)
    (hd : ∀ σ' B' H', Le M B H B' H' → I n σ' B' H' → tz D σ' H') : tSeq (tFor (iRng3 ts) gg tu) tz D σ H := by
  refine ha B H (Le.refl e) _ fun us B1 H1 l1 hus => ?_
  obtain ⟨u1, u2, u3, rfl, h1, h2, h3⟩ := dq3 hus
  cases h1
  cases h2
  cases h3
  refine ⟨lo, hi, st, n, rfl, hr, for_rangeC (fun i σ' H' => ∃ B', Le M B1 H1 B' H' ∧ I i σ' B' H') ⟨B1, Le.refl l1.h, h0 B1 H1 l1⟩ (fun i σ' H' hi p => ?_) (fun σ' H' p => ?_)⟩
  · obtain ⟨B', l, hI⟩ := p
    exact hs i σ' B' H' _ (l1.any.trans l) hi hI fun σ3 B3 H3 l3 hI3 => ⟨B3, l.trans l3, hI3⟩
  · obtain ⟨B', l, hI⟩ := p
    exact hd σ' B' H' (l1.any.trans l) hI
end
/-- what may change lies in M, or was not there -/
theorem Le.narrow {R M : List Addr} {B H B' H' : Hp} (x : Le R B H B' H') (h : ∀ r ∈ R, r ∉ M → H r = none) : Le M B H B' H' :=
  ⟨x.b, x.h, fun a o ha e => x.k a o (fun z => by rw [h a z ha] at e; cases e) e, x.t, x.n⟩
theorem cut_mapI (ss : List Int) (lo hi : Option Int) : cutG (ss.map PyData.int) lo hi = (cutG ss lo hi).map PyData.int := by
  unfold cutG
  rw [List.length_map, List.map_take, List.map_drop]
theorem cut_room (ss : List Int) {i : Int} {hi : Option Int} (h0 : 0 ≤ i) (h1 : i ≤ ss.length) : (cutG ss (some i) hi).length + i.toNat ≤ ss.length := by
  unfold cutG
  have e : HT.sIx ss.length 0 (some i) = i.toNat := by
    have := HT.sIx_nat (n := ss.length) (d := 0) (k := i.toNat)
    rw [show ((i.toNat : Nat) : Int) = i by omega] at this
    rw [this]
    omega
  rw [e]
  rw [List.length_take, List.length_drop]
  omega
/-- things put together by where they go: each once -/
theorem group_perm {ks : List Int} (nd : ks.Nodup) : ∀ {zs : List (Int × Int)}, (∀ z ∈ zs, z.2 ∈ ks) → (ks.flatMap fun n => (zs.filter fun e => decide (e.2 = n)).map (·.1)).Perm (zs.map (·.1))
  | [], _ => by
    have : (ks.flatMap fun n => (([] : List (Int × Int)).filter fun e => decide (e.2 = n)).map (·.1)) = [] := List.flatMap_eq_nil_iff.mpr fun _ _ => rfl
    rw [this]
    exact .nil
  | z :: zs, h => by
    have ih := group_perm nd (zs := zs) fun y hy => h y (List.mem_cons_of_mem _ hy)
    have hz := h z (List.mem_cons_self ..)
    have pe := List.perm_cons_erase hz
    have nin : z.2 ∉ ks.erase z.2 := (List.nodup_cons.mp (pe.nodup_iff.mp nd)).1
    have p1 := pe.flatMap_right fun n => ((z :: zs).filter fun e => decide (e.2 = n)).map (·.1)
    have p2 := pe.flatMap_right fun n => (zs.filter fun e => decide (e.2 = n)).map (·.1)
    refine p1.trans ?_
    refine List.Perm.trans ?_ ((p2.symm.trans ih).cons z.1)
    rw [List.flatMap_cons, List.flatMap_cons, List.filter_cons, if_pos (by simp), List.map_cons, List.cons_append]
    refine List.Perm.cons _ (List.Perm.append_left _ ?_)
    rw [List.flatMap_def, List.flatMap_def, List.map_congr_left (g := fun n => (zs.filter fun e => decide (e.2 = n)).map (·.1)) fun n hn => ?_]
    rw [List.filter_cons, if_neg]
    intro e
    exact nin ((of_decide_eq_true e) ▸ hn)
end MA

set_option maxRecDepth 100000
set_option maxHeartbeats 16000000
namespace K34
open PySem PySem.Spec PyProof.Rows L2 MA
theorem two_of : ∀ {l : List Int}, 2 ≤ l.length → ∃ a b r, l = a :: b :: r
  | a :: b :: r, _ => ⟨a, b, r, rfl⟩
section
variable {P : Program} {w : World} {K : PySem.W.Frag} {mg : PySem.Str → Option Value} {base : Heap} {g : Addr} {σ : L2.St} {B H : Hp}
theorem ew_mixG {α : Type} (f : α → PyData) {E : XK} {i : Nat} {te : TE} {xs : List α} (hi : σ[i]? = some (some (.ref g))) (h : ∀ B1 H1, Le [g] B H B1 H1 → Ev K te σ B1 H1 (.list (xs.map f))) (hx : xs.length ≤ 60) : Ew K g 60 (tCall (MixS K) [] E (tCons (tVar i) (tCons te tNil))) σ B H (fun d => ∃ ys : List α, d = .list (ys.map f) ∧ ys.Perm xs) :=
  Ew.wk ((ew_call (a := 0 + 0) hi (ewa_cons (ew_of h) ewa_nil) fun ds r => by
    obtain ⟨d, r, rfl, rfl, rfl⟩ := r
    exact ⟨_, rfl, by rw [List.length_map]; exact hx⟩).imp fun d h => by
      obtain ⟨ds, ⟨d1, r, rfl, rfl, rfl⟩, us, ys, e1, rfl, pm⟩ := h
      injection e1 with e1
      injection e1 with e1
      obtain ⟨ws, rfl, pw⟩ := perm_mapG pm xs e1.symm
      exact ⟨ws, rfl, pw⟩) (by decide)
/-- a possible effect -/
abbrev EffS (K : PySem.W.Frag) : Sp := Bw K 4000 (fun ds => ∃ n : Int, ds = [.int n] ∧ 1 ≤ n ∧ n ≤ 60) fun ds d => ∃ ns m, d = effT ns m ∧ EffV ns m
theorem ok_law_effect (D : Df K mg "_law_effect" s__law_effect ["jug", "most"]) (C__law_drop : Cl P w K mg base CX0 1 "_law_drop" ["jug", "many"] (PailS K)) (C__law_stirred : Cl P w K mg base CX0 2 "_law_stirred" ["jug", "items"] (MixS K))
    (z_max : mg "max" = none) (z_min : mg "min" = none) (z_zip : mg "zip" = none) (z_len : mg "len" = none) (z_list : mg "list" = none) (z_range : mg "range" = none) (z_tuple : mg "tuple" = none) (z_enumerate : mg "enumerate" = none) (z_dict : mg "dict" = none) :
    Cl P w K mg base CX0 3 "_law_effect" ["jug", "most"] (EffS K) :=
  Cl.of D sc__law_effect (bw_len (n := 1) fun ds h => by obtain ⟨n, rfl, _⟩ := h; rfl) fun f cdv A outer s H vs Q E hr h => by
    obtain ⟨g, us, B, ds, m0, rfl, e, hw, hm, hq, ⟨n, rfl, n1, n2⟩, q⟩ := h
    obtain ⟨v1, rfl, hv1⟩ := dq1 hq
    cases hv1
    have hu := hr.units0
    have hu1 := hu_of hr
    have hu65 : (cxOf CX0 P w K mg base N__law_effect "_law_effect" (defScope s__law_effect) f cdv A outer s H E).nox.A.units + 65 < cLine := by
      have h1 := hr.un
      have h2 : (A.deeper (envOfC "_law_effect" (defScope s__law_effect) s.heap.objs.size f cdv)).units + 65 < cLine := by omega
      exact h2
    refine ⟨_, (pss_cons (ps_set (i := 2) sc__law_effect.nd rfl (.inr rfl) (pe_callC C__law_drop (hr.mono (by decide)) (by rfl) pass0 (pa_cons (pv 0) (pa_cons pe_int pa_nil)))) (pss_cons (ps_set (i := 3) sc__law_effect.nd rfl (.inr rfl) (pe_ix ix_seq (pe_lst (pa_cons (pe_op op_addA pe_int (pe_callC C__law_drop (hr.mono (by decide)) (by rfl) pass0 (pa_cons (pv 0) (pa_cons (pv 1) pa_nil)))) (pa_cons (pv 1) (pa_cons (pe_op op_addA pe_int (pe_callC C__law_drop (hr.mono (by decide)) (by rfl) pass0 (pa_cons (pv 0) (pa_cons (pe_callB (call_min2 rfl) (by rfl) z_min (by decide +kernel) (pa_cons (pv 1) (pa_cons pe_int pa_nil))) pa_nil)))) pa_nil)))) (pe_callC C__law_drop (hr.mono (by decide)) (by rfl) pass0 (pa_cons (pv 0) (pa_cons pe_int pa_nil))) (fun _ _ => rfl))) (pss_cons (ps_set (i := 4) sc__law_effect.nd rfl (.inr rfl) (pe_slice sl_any (pe_callC C__law_stirred (hr.mono (by decide)) (by rfl) pass0 (pa_cons (pv 0) (pa_cons (pe_listRg rfl (by rfl) z_list (prg_1 (by rfl) z_range pe_int)) pa_nil))) po_none (po_some (pv 3)))) (pss_cons (ps_setLc (i := 6) (own := [("item", 5)]) (tt := tYes) (te := (tOp (rIx K) (tVar 4) (tCall _ [] E0 (tCons (tVar 0) (tCons (tOp (rIx K) (tLst (tCons (tVar 3) (tCons (tVar 3) (tCons (tVar 3) (tCons (tVar 3) (tCons (tCB rMin2 (tCons (tVar 3) (tCons (tC (.int 2)) tNil))) (tCons (tCB rMin2 (tCons (tVar 3) (tCons (tC (.int 4)) tNil))) tNil))))))) (tVar 2)) tNil))))) rfl sc__law_effect.nd rfl rfl (sw_true rfl rfl rfl (by decide +kernel)) (pi_list (pv 4)) (blkOk_by (N := N__law_effect) (sc := defScope s__law_effect) (by decide +kernel)) (fun _ _ _ _ _ => (pg_name (i := 5) sc__law_effect.nd rfl (.inl rfl))) (fun _ _ _ _ _ => pts_nil) (fun _ _ _ _ _ => (pe_ix ix_seq (pv 4) (pe_callC C__law_drop (hr.mono (by decide)) (by rfl) pass0 (pa_cons (pv 0) (pa_cons (pe_ix ix_seq (pe_lst (pa_cons (pv 3) (pa_cons (pv 3) (pa_cons (pv 3) (pa_cons (pv 3) (pa_cons (pe_callB (call_min2 rfl) (by rfl) z_min (by decide +kernel) (pa_cons (pv 3) (pa_cons pe_int pa_nil))) (pa_cons (pe_callB (call_min2 rfl) (by rfl) z_min (by decide +kernel) (pa_cons (pv 3) (pa_cons pe_int pa_nil))) pa_nil))))))) (pv 2) (fun _ _ => rfl)) pa_nil))) (fun _ _ => rfl)))) (pss_cons (ps_set (i := 7) sc__law_effect.nd rfl (.inl rfl) (pe_ix ix_seq (pe_lst (pa_cons pe_int (pa_cons pe_int (pa_cons (pv 3) (pa_cons pe_int (pa_cons pe_int (pa_cons pe_int pa_nil))))))) (pv 2) (fun _ _ => rfl))) (pss_cons (ps_for PassesOwn.never rfl (pi_range3 (by rfl) z_range (pa_cons pe_int (pa_cons (pe_op op_sub (pv 3) pe_int) (pa_cons (pe_callB (call_max2 rfl) (by rfl) z_max (by decide +kernel) (pa_cons pe_int (pa_cons (pv 7) pa_nil))) pa_nil)))) (pg_name (i := 8) sc__law_effect.nd rfl (.inl rfl)) (pss_cons (ps_set (i := 9) sc__law_effect.nd rfl (.inl rfl) (pe_slice sl_any (pv 4) (po_some (pv 8)) (po_some (pe_op op_addA (pv 8) (pv 7))))) (pss_one (ps_for PassesOwn.never rfl (pi_enum (by rfl) z_enumerate (pa_cons (pv 9) pa_nil)) (pg_tup rfl (pgs_cons (pg_name (i := 10) sc__law_effect.nd rfl (.inl rfl)) (pgs_cons (pg_name (i := 5) sc__law_effect.nd rfl (.inl rfl)) pgs_nil))) (pss_one (ps_asg (pe_ifExp (pt_cmpR op_gt (pe_callC C__law_drop (hr.mono (by decide)) (by rfl) pass0 (pa_cons (pv 0) (pa_cons pe_int pa_nil))) pe_int (nomark _)) (pe_ix ix_seq (pv 9) (pe_op op_mod (pe_op op_addA (pv 10) pe_int) (pe_callB call_len_seq (by rfl) z_len PySem.boot_len (pa_cons (pv 9) pa_nil))) (fun _ _ => rfl)) (pe_ix ix_seq (pv 6) (pe_op op_addA (pv 8) (pv 10)) (fun _ _ => rfl))) (pg_sub (pv 6) (pe_op op_addA (pv 8) (pv 10)) set_list))))))) (pss_cons (ps_set (i := 11) sc__law_effect.nd rfl (.inr rfl) (pe_callTy (call_dictP rfl) (by rfl) z_dict (by decide +kernel) (pa_cons (pe_lc (own := [("item", 5)]) (tt := tYes) (te := (tTup (tCons (tVar 5) (tCons (tLst tNil) tNil)))) rfl sc__law_effect.nd (pi_list (pe_callC C__law_stirred (hr.mono (by decide)) (by rfl) pass0 (pa_cons (pv 0) (pa_cons (pv 4) pa_nil)))) (blkOk_by (N := N__law_effect) (sc := defScope s__law_effect) (by decide +kernel)) (fun _ _ _ _ _ => (pg_name (i := 5) sc__law_effect.nd rfl (.inl rfl))) (fun _ _ _ _ _ => pts_nil) (fun _ _ _ _ _ => (pe_tup (pa_cons (pv 5) (pa_cons (pe_lst pa_nil) pa_nil))))) pa_nil))) (pss_cons (ps_for PassesOwn.never rfl (pi_list (pe_callC C__law_stirred (hr.mono (by decide)) (by rfl) pass0 (pa_cons (pv 0) (pa_cons (pe_listZip rfl (by rfl) z_list (by rfl) z_zip (pa_cons (pv 4) (pa_cons (pv 6) pa_nil))) pa_nil)))) (pg_tup rfl (pgs_cons (pg_name (i := 5) sc__law_effect.nd rfl (.inl rfl)) (pgs_cons (pg_name (i := 12) sc__law_effect.nd rfl (.inl rfl)) pgs_nil))) (pss_cons (ps_set (i := 13) sc__law_effect.nd rfl (.inl rfl) (pe_dget hu1 (pv 11) (pv 12) (fun _ _ => rfl))) (pss_one (ps_expr (pe_bm PySem.F.plainAttrs_list PySem.F.slot_list_append PySem.F.type_list_append mt_append (pv 13) (pa_cons (pv 5) pa_nil)))))) (pss_cons (ps_set (i := 14) sc__law_effect.nd rfl (.inl rfl) (pe_callTy (call_dictP rfl) (by rfl) z_dict (by decide +kernel) (pa_cons (pe_lock (pe_lc (own := [("item", 5)]) (tt := tYes) (te := (tTup (tCons (tVar 5) (tCons (tCB (rTupA K) (tCons (tDGet (tVar 11) (tVar 5)) tNil)) tNil)))) rfl sc__law_effect.nd (pi_keys (pv 11)) (blkOk_by (N := N__law_effect) (sc := defScope s__law_effect) (by decide +kernel)) (fun _ _ _ _ _ => (pg_name (i := 5) sc__law_effect.nd rfl (.inl rfl))) (fun _ _ _ _ _ => pts_nil) (fun _ _ _ _ _ => (pe_tup (pa_cons (pv 5) (pa_cons (pe_callTy call_tuple_of (by rfl) z_tuple (by decide +kernel) (pa_cons (pe_dget hu1 (pv 11) (pv 5) (fun _ _ => rfl)) pa_nil)) pa_nil)))))) pa_nil))) (pss_cons (ps_if (pt_cmpR (op_inD hu65) (pe_tup pa_nil) (pe_listVals rfl (by rfl) z_list (pv 14)) (by rfl)) (pss_one (ps_ret (pv 14))) pss_nil) (pss_cons (ps_if ((pw_or (pt_cmpR (op_eqA hu) (pv 3) pe_int (nomark _)) (pw_or1 (pt_cmpR (op_eqA hu) (pe_callC C__law_drop (hr.mono (by decide)) (by rfl) pass0 (pa_cons (pv 0) (pa_cons pe_int pa_nil))) pe_int (nomark _))))).pt (pss_one (ps_ret (pe_callTy (call_dictP rfl) (by rfl) z_dict (by decide +kernel) (pa_cons (pe_lock (pe_lc (own := [("item", 5)]) (tt := tYes) (te := (tTup (tCons (tVar 5) (tCons (tTup (tCons (tVar 5) tNil)) tNil)))) rfl sc__law_effect.nd (pi_keys (pv 14)) (blkOk_by (N := N__law_effect) (sc := defScope s__law_effect) (by decide +kernel)) (fun _ _ _ _ _ => (pg_name (i := 5) sc__law_effect.nd rfl (.inl rfl))) (fun _ _ _ _ _ => pts_nil) (fun _ _ _ _ _ => (pe_tup (pa_cons (pv 5) (pa_cons (pe_tup (pa_cons (pv 5) pa_nil)) pa_nil)))))) pa_nil)))) pss_nil) (pss_cons (ps_par (i := 15) (j := 16) rfl sc__law_effect.nd rfl rfl (by decide) rfl rfl (pa_cons (pe_ix ix_seq (pv 4) pe_int (fun _ _ => rfl)) (pa_cons (pe_ix ix_seq (pv 4) pe_int (fun _ _ => rfl)) pa_nil)) rfl) (pss_cons (ps_asg (pe_op op_addA (pe_dget hu1 (pv 14) (pv 15) (fun _ _ => rfl)) (pe_dget hu1 (pv 14) (pv 16) (fun _ _ => rfl))) (pg_sub (pv 14) (pv 15) (set_dict hu1))) (pss_cons (ps_asg (pe_tup pa_nil) (pg_sub (pv 14) (pv 16) (set_dict hu1))) (pss_one (ps_ret (pv 14))))))))))))))))), ?_⟩
    -- way
    refine w_set (K := K) (g := g) (c := 1) (m := m0) (R := RI fun r => 0 ≤ r ∧ r < 6) (ew_pailC (n := 6) rfl (fun _ _ _ => ev_c (.int 6)) (by decide) (by decide)) (by omega) e hw ?_
    rintro d v2 B1 H1 ⟨way, rfl, y0, y1⟩ l1 w1 hv
    cases hv
    -- count
    refine w_set (K := K) (g := g) (c := 3) (m := m0 + 1) (R := RI fun r => 1 ≤ r ∧ r ≤ 60) (Ew.wk (ew_pickR (n := 3) (P := fun r => 0 ≤ r ∧ r < 3) (ew_lstR (ewa_consR (wi_add (P1 := (· = 1)) (wi_c rfl) (ew_pailC (n := n) rfl (fun _ _ _ => ev_var rfl (.int n)) (by omega) (by omega)) fun i j h1 h2 => by subst h1; omega) (ewa_consR (wi_var rfl (by omega))
      (ewa_consR (wi_add (P1 := (· = 1)) (wi_c rfl) (ew_pailC (n := min n 6) rfl (fun _ _ _ => ev_cb (ea_cons (ev_var rfl (.int n)) (ea_cons (ev_c (.int 6)) ea_nil)) rc_min) (by omega) (by omega)) fun i j h1 h2 => by subst h1; omega) ewa_nilR))) (by decide)) (ew_pailC (n := 3) rfl (fun _ _ _ => ev_c (.int 3)) (by decide) (by decide)) fun i h => by omega) (by decide)) (by omega) l1.h w1 ?_
    rintro d v3 B2 H2 ⟨cnt, rfl, c1, c2⟩ l2 w2 hv
    cases hv
    -- items
    refine w_set (K := K) (g := g) (c := 60) (m := m0 + 1 + 3) (R := fun d => ∃ ss : List Int, d = .list (ss.map PyData.int) ∧ ss.Nodup ∧ (ss.length : Int) = cnt ∧ ∀ k ∈ ss, 0 ≤ k ∧ k < 60)
      (Ew.wk (ew_sl (P := (· = cnt)) (ew_mixG PyData.int (xs := (List.range 60).map fun (i : Nat) => (i : Int)) rfl (fun _ _ _ => ev_lstRg (n := 60) (by decide)) (by simp)) (wi_var (i := 3) rfl rfl) fun x i h1 h2 => by
        obtain ⟨ys, rfl, pm⟩ := h1
        subst h2
        have r := rs_L (K := K) (ds := ys.map PyData.int) (lo := none) (hi := some i)
        rw [cut_ints ys (by omega)] at r
        have yl : ys.length = 60 := by rw [pm.length_eq]; simp
        refine ⟨_, r, ys.take i.toNat, rfl, ?_, by rw [List.length_take, yl]; omega, fun k hk => ?_⟩
        · refine (pm.nodup_iff.mpr ?_).sublist (List.take_sublist _ _)
          exact (by decide : ((List.range 60).map fun (i : Nat) => (i : Int)).Nodup)
        · have := pm.mem_iff.mp (List.mem_of_mem_take hk)
          obtain ⟨a, ha, rfl⟩ := List.mem_map.mp this
          have := List.mem_range.mp ha
          omega) (by decide)) (by omega) l2.h w2 ?_
    rintro d v4 B3 H3 ⟨ss, rfl, snd, slen, sin⟩ l3 w3 hv4
    -- homes
    refine q_lcOwnI (K := K) (g := g) (σ := [some (.ref g), some (.int n), some (.int way), some (.int cnt), some v4, none, none, none, none, none, none, none, none, none, none, none, none]) (xs := ss) (i := 6) (j := 5) (c := 1) (vs := [5]) (P := fun h => h ∈ ss) (ev_var (i := 4) rfl hv4) l3.h w3 (by omega) (by omega) (fun k hk B' H' l => ?_) (fun _ => rfl) fun p hs B4 H4 l4 hp bp hhp hsl hss w4 => ?_
    · refine Ew.wk (ew_ixR (n := ss.length) (P := fun r => 0 ≤ r ∧ r < ss.length) (ew_memL (i := 4) rfl (hv4.mono l.b)) ((ew_pail (P := fun r => 1 ≤ r ∧ r ≤ cnt) rfl (ew_pickR (n := 6) (P := fun r => 0 ≤ r ∧ r < 6) (ew_lstR (ewa_consR (wi_var rfl (by omega)) (ewa_consR (wi_var rfl (by omega)) (ewa_consR (wi_var rfl (by omega)) (ewa_consR (wi_var rfl (by omega)) (ewa_consR (wi_ev (k := min cnt 2) (fun _ _ _ => ev_cb (ea_cons (ev_var rfl (.int cnt)) (ea_cons (ev_c (.int 2)) ea_nil)) rc_min) (by omega)) (ewa_consR (wi_ev (k := min cnt 4) (fun _ _ _ => ev_cb (ea_cons (ev_var rfl (.int cnt)) (ea_cons (ev_c (.int 4)) ea_nil)) rc_min) (by omega)) ewa_nilR)))))) (by decide)) (wi_var rfl ⟨y0, y1⟩) fun i h => h) fun n h => by omega).imp fun d h => ?_) fun i h => h) (by decide)
      obtain ⟨r, rfl, n', h1, h2⟩ := h
      exact ⟨r, rfl, by omega⟩
    have hpg := w3.ne hp
    -- wide
    refine w_set (K := K) (g := g) (c := 0) (m := m0 + 1 + 3 + 60 + 1 * ss.length) (R := RI fun r => 0 ≤ r ∧ r ≤ 60) (Ew.wk (ew_pickR (n := 6) (P := fun r => 0 ≤ r ∧ r < 6) (ew_lstR (ewa_consR (wi_c (by omega)) (ewa_consR (wi_c (by omega)) (ewa_consR (wi_var rfl (by omega)) (ewa_consR (wi_c (by omega)) (ewa_consR (wi_c (by omega)) (ewa_consR (wi_c (by omega)) ewa_nilR)))))) (by decide)) (wi_var rfl ⟨y0, y1⟩) fun i h => h) (by decide)) (by omega) l4.h w4 ?_
    rintro d v7 B5 H5 ⟨wide, rfl, z0, z1⟩ l5 w5 hv
    cases hv
    have hv45 := (hv4.mono l4.b).mono l5.b
    have bp5 := l5.own hhp bp
    have hhp5 := l5.k p _ (by simp [hpg]) hhp
    -- rings
    have args : EvA K (tCons (tC (.int 0)) (tCons (tOp (rI0 fun i j => .int (i - j)) (tVar 3) (tC (.int 1))) (tCons (tCB rMax2 (tCons (tC (.int 1)) (tCons (tVar 7) tNil))) tNil))) [some (.ref g), some (.int n), some (.int way), some (.int cnt), some v4, none, some (.ref p), some (.int wide), none, none, none, none, none, none, none, none, none] B5 H5 [.int 0, .int (cnt - 1), .int (max 1 wide)] :=
      ea_cons (ev_c (.int 0)) (ea_cons (ev_op (ev_var (i := 3) rfl (.int cnt)) (ev_c (.int 1)) rv_int0) (ea_cons (ev_cb (ea_cons (ev_c (.int 1)) (ea_cons (ev_var (i := 7) rfl (.int wide)) ea_nil)) rc_max) ea_nil))
    obtain ⟨rg, rlt⟩ := RgC.up (n := cnt - 1) (c := max 1 wide) (by omega) (by omega) (by omega) (by omega)
    have w6 : Wl g (m0 + 130) B5 H5 := w5.mono (by omega)
    refine q_forR3 [p, g] args l5.h rg (fun i σ' B' H' => ∃ (hs : List Int) (o5 o8 o9 o10 : Option V), σ' = [some (.ref g), some (.int n), some (.int way), some (.int cnt), some v4, o5, some (.ref p), some (.int wide), o8, o9, o10, none, none, none, none, none, none] ∧ Wl g (m0 + 130 + 60 * i) B' H' ∧ B' p = none ∧ H' p = some (.lst (hs.map V.int)) ∧ hs.length = ss.length ∧ ∀ h ∈ hs, h ∈ ss)
      (fun B' H' l => ⟨hs, none, none, none, none, rfl, w6.pure l, l.own hhp5 bp5, l.k p _ (by simp) hhp5, hsl, hss⟩) ?_ ?_
    · rintro i σ' Bi H' N li hi ⟨hs, o5, o8, o9, o10, rfl, wi, bi, hpi, hl, hss⟩ hN
      have hlt := rlt i hi
      have hnn : 0 ≤ (i : Int) * max 1 wide := Int.mul_nonneg (by omega) (by omega)
      have hi59 : (i : Int) ≤ (i : Int) * max 1 wide := by
        have := Int.mul_le_mul_of_nonneg_left (show 1 ≤ max 1 wide by omega) (show 0 ≤ (i : Int) by omega)
        omega
      generalize hspot : (0 + (i : Int) * max 1 wide) = spot
      have s0 : 0 ≤ spot := by omega
      have s1 : spot < cnt - 1 := by omega
      have hv4i := hv45.mono li.b
      have sl := ev_sl (K := K) (σ := [some (.ref g), some (.int n), some (.int way), some (.int cnt), some v4, o5, some (.ref p), some (.int wide), some (.int spot), o9, o10, none, none, none, none, none, none]) (B := Bi) (H := H') (ev_var (i := 4) rfl hv4i) (eo_some (K := K) (ev_var (i := 8) rfl (.int spot))) (eo_some (K := K) (ev_op (ev_var (i := 8) rfl (.int spot)) (ev_var (i := 7) rfl (.int wide)) rv_addI)) rs_L
      rw [cut_mapI] at sl
      refine q_set (i := 9) sl li.h fun v9 B7 H7 l7 hv9 => ?_
      clear sl
      have rmem : ∀ k ∈ cutG ss (some spot) (some (spot + wide)), k ∈ ss := fun k hk => mem_cut hk
      have rlen := cut_room ss (hi := some (spot + wide)) s0 (by omega)
      generalize cutG ss (some spot) (some (spot + wide)) = rs at hv9 rmem rlen
      have hv9' := hv9
      cases hv9 with
      | lst hs9 hq9 =>
        rename_i a9 zs9
        cases ofInts hq9
        refine ⟨.ref a9, rfl, a9, _, rfl, .inl (.inl (l7.h _ _ hs9)), for_it (walk_enum (xs := rs.map V.int)) (fun t σ' H' => ∃ (Bt : Hp) (hs : List Int) (o5 o10 : Option V), σ' = [some (.ref g), some (.int n), some (.int way), some (.int cnt), some v4, o5, some (.ref p), some (.int wide), some (.int spot), some (.ref a9), o10, none, none, none, none, none, none] ∧ Le [p, g] B7 H7 Bt H' ∧ Wl g (m0 + 130 + 60 * i + t) Bt H' ∧ Bt p = none ∧ H' p = some (.lst (hs.map V.int)) ∧ hs.length = ss.length ∧ ∀ h ∈ hs, h ∈ ss)
          ⟨B7, hs, o5, o10, rfl, Le.refl l7.h, wi.pure l7, l7.own hpi bi, l7.k p _ (by simp) hpi, hl, hss⟩ ?_ ?_ ?_⟩
        · rintro t σ' H' _ ⟨Bt, _, _, _, _, le, _⟩
          exact .inl (.inl (le.h _ _ (le.b _ _ hs9)))
        · rintro t x σ' Ha Hb ht ⟨Bt, hs, o5, o10, rfl, lt, wt, bt, hpt, hl, hss⟩ ⟨T, x1, x2, rfl, hT, rfl, f1, f2⟩
          cases f1
          replace f2 : (rs.map V.int)[t]? = some x2 := f2
          rw [List.getElem?_map] at f2
          obtain ⟨k, hk, rfl⟩ := Option.map_eq_some_iff.mp f2
          rw [List.length_map] at ht
          have ln := Le.new (M := []) (o := .tup [.int (t : Nat), .int k]) lt.h hT
          refine gt2 (K := K) ln.h (.tup (.inl (.inl upd_same)) (.cons (.int _) (.cons (.int k) .nil))) fun x y hx hy => ?_
          cases hx
          cases hy
          have bt2 := ln.own hpt bt
          have hpt2 := ln.k p _ (by simp) hpt
          have wt2 := wt.pure ln
          have hv9t := (hv9'.mono lt.b).mono ln.b
          generalize upd Bt T (.tup [.int (t : Nat), .int k]) = Bn at *
          generalize upd Ha T (.tup [.int (t : Nat), .int k]) = Hn at *
          have gs : ∀ (z : Int), 0 ≤ z → z < hs.length → hs[z.toNat]? = some (hs.getD z.toNat 0) ∧ hs.getD z.toNat 0 ∈ hs := fun z h0 h1 => by
            have h2 : z.toNat < hs.length := by omega
            rw [List.getD_eq_getElem?_getD, List.getElem?_eq_getElem h2]
            exact ⟨rfl, List.getElem_mem h2⟩
          obtain ⟨gs1, gs2⟩ := gs (spot + t) (by omega) (by omega)
          have at1 : atI (hs.map V.int) (spot + t) = some (.int (hs.getD (spot + t).toNat 0)) := at_nat (by omega) (by omega)
          have rm0 : 0 ≤ ((t : Int) + 1) % (rs.length : Nat) ∧ ((t : Int) + 1) % (rs.length : Nat) < (rs.length : Nat) := ⟨Int.emod_nonneg _ (by omega), Int.emod_lt_of_pos _ (by omega)⟩
          have rlt2 : (((t : Int) + 1) % (rs.length : Nat)).toNat < rs.length := by omega
          have at2 : atI (rs.map PyData.int) (((t : Int) + 1) % (rs.length : Nat)) = some (.int rs[(((t : Int) + 1) % (rs.length : Nat)).toNat]) := by
            have z := atI_nat (xs := rs.map PyData.int) (j := (((t : Int) + 1) % (rs.length : Nat)).toNat) (v := .int rs[(((t : Int) + 1) % (rs.length : Nat)).toNat]) (by rw [List.getElem?_map, List.getElem?_eq_getElem rlt2]; rfl)
            rwa [show ((((t : Int) + 1) % (rs.length : Nat)).toNat : Int) = ((t : Int) + 1) % (rs.length : Nat) by omega] at z
          refine w_setIx (K := K) (g := g) (p := p) (i := 6) (c := 1 + 0 + 0) (k := spot + t) (P := fun y => y ∈ ss) (m := m0 + 130 + 60 * i + t) rfl hpt2 bt2 hpg (ew_ifD (ewt_cmp (P1 := fun _ => True) (P2 := fun _ => True) (Ew.imp (ew_pailC (n := 9) rfl (fun _ _ _ => ev_c (.int 9)) (by decide) (by decide)) fun d h => by
              obtain ⟨r, rfl, _⟩ := h
              exact ⟨r, rfl, trivial⟩) (wi_c trivial)) (fun B1 H1 l => ?_) (fun B1 H1 l => ?_)) (fun B1 H1 l => ev_op (ev_var (i := 8) rfl (.int spot)) (ev_var (i := 10) rfl (.int _)) rv_addI) (by omega) (by omega) (by omega) ln.h wt2 fun y B' H' hy l' w' b' h' => ?_
          · have lc := rc_lenL (K := K) (ds := rs.map PyData.int)
            rw [List.length_map] at lc
            exact wi_ev (k := rs[(((t : Int) + 1) % (rs.length : Nat)).toNat]) (fun B2 H2 l2 => ev_op (ev_var (i := 9) rfl ((hv9t.mono l.b).mono l2.b)) (ev_op (ev_op (ev_var (i := 10) rfl (.int _)) (ev_c (.int 1)) rv_addI) (ev_cb (ea_cons (ev_var (i := 9) rfl ((hv9t.mono l.b).mono l2.b)) ea_nil) lc) (rv_int (by show (0 : Int) < _; omega))) (rv_ixL at2)) (rmem _ (List.getElem_mem rlt2))
          · exact wi_ev (k := hs.getD (spot + t).toNat 0) (fun B2 H2 l2 => ev_ixOwn (i := 6) rfl (l2.k p _ (by simp [hpg]) (l.k p _ (by simp [hpg]) hpt2)) (ev_op (ev_var (i := 8) rfl (.int spot)) (ev_var (i := 10) rfl (.int _)) rv_addI) at1) (hss _ gs2)
          refine ⟨B', _, _, _, rfl, (lt.trans ln.any).trans l', w'.mono (by omega), b', h', by rw [List.length_set]; exact hl, fun h hh => ?_⟩
          rcases List.mem_or_eq_of_mem_set hh with h1 | h1
          · exact hss h h1
          · rw [h1]; exact hy
        · rintro σ' H' ⟨Bt, hs, o5, o10, rfl, lt, wt, bt, hpt, hl, hss⟩
          rw [List.length_map] at wt
          exact hN _ Bt H' (l7.any.trans lt) ⟨hs, _, _, _, _, rfl, wt.mono (by omega), bt, hpt, hl, hss⟩
    rintro σ' B7 H7 l7 ⟨hs, o5, o8, o9, o10, rfl, w7, bp7, hhp7, hsl, hss⟩
    have rn : (Builtin.Range.rangeSize 0 (cnt - 1) (max 1 wide)).toNat ≤ 60 := by
      by_cases h0 : (Builtin.Range.rangeSize 0 (cnt - 1) (max 1 wide)).toNat = 0
      · omega
      · have h1 := rlt ((Builtin.Range.rangeSize 0 (cnt - 1) (max 1 wide)).toNat - 1) (by omega)
        have h2 := Int.mul_le_mul_of_nonneg_left (show 1 ≤ max 1 wide by omega) (show 0 ≤ (((Builtin.Range.rangeSize 0 (cnt - 1) (max 1 wide)).toNat - 1 : Nat) : Int) by omega)
        omega
    replace w7 := w7.mono (n := m0 + 3730) (by omega)
    clear rlt rg args w6
    have hv47 := hv45.mono l7.b
    -- rows
    refine w_srcC (K := K) (g := g) (c := 60) (R := fun d => ∃ ys : List Int, d = .list (ys.map PyData.int) ∧ ys.Perm ss) (ew_mixG PyData.int (xs := ss) rfl (fun _ _ l => ev_var (i := 4) rfl (hv47.mono l.b)) (by omega)) (by omega) l7.h w7 ?_
    rintro d v8 B8 H8 ⟨ks, rfl, pk⟩ l8 w8 hv8
    have knd : ks.Nodup := pk.nodup_iff.mpr snd
    have kln := pk.length_eq
    refine q_rowsE (K := K) (ns := ks) (i := 11) (j := 5) (vs := [5]) (ev_val hv8) l8.h knd (by omega) (fun _ => rfl) (fun _ => rfl) fun pr rows B9 H9 l9 hpr hfr x9 => ?_
    have hg8 : H8 g ≠ none := by
      obtain ⟨_, _, _, h, _⟩ := w8.has
      rw [h]
      simp
    have hgr : g ∉ rows := fun z => hg8 (hfr g z)
    have hpg2 : pr ≠ g := fun z => hg8 (z ▸ hpr)
    have hp8 := l8.k p _ (by simp [hpg]) hhp7
    have bp8 := l8.own hhp7 bp7
    have hp9 := l9.k p _ (by simp) hp8
    have w9 := w8.pure l9
    have hv49 := (hv47.mono l8.b).mono l9.b
    -- each item goes home
    refine w_forSrc (K := K) (g := g) (c := 60) (S := fun xs => ∃ zs : List (Int × Int), xs = zs.map pairI2 ∧ zs.Perm (ss.zip hs)) (Ew.imp (ew_mixG pairI2 (xs := ss.zip hs) rfl (fun B' H' l => ev_listZip (i := 4) (j := 6) rfl (hv49.mono l.b) rfl (l.k p _ (by simp [hpg]) hp9) hsl.symm) (by rw [List.length_zip]; omega)) fun d h => by
      obtain ⟨ys, rfl, pm⟩ := h
      exact ⟨_, rfl, ys, rfl, pm⟩) (by omega) l9.h w9 ?_
    rintro xs v10 Ba Ha ⟨zs, rfl, pz⟩ la wa hva
    have zfst : (zs.map (·.1)).Perm ss := by
      have := pz.map (·.1)
      rwa [List.map_fst_zip (by omega)] at this
    have zsnd : ∀ z ∈ zs, z.2 ∈ ks := fun z hz => by
      have h1 := pz.mem_iff.mp hz
      exact pk.mem_iff.mpr (hss _ (List.of_mem_zip h1).2)
    have zl : zs.length ≤ 60 := by
      have := pz.length_eq
      rw [List.length_zip] at this
      omega
    have xa := x9.pureM la (by simp [hpg2]) (fun r hr h => hgr (by rw [← List.mem_singleton.mp h]; exact hr))
    refine q_forM (K := K) rows (xs := zs.map pairI2) (ev_val hva) la.h (fun t σ' B' H' => ∃ o5 o12 o13, σ' = [some (.ref g), some (.int n), some (.int way), some (.int cnt), some v4, o5, some (.ref p), some (.int wide), o8, o9, o10, some (.ref pr), o12, o13, none, none, none] ∧ SW K pr ks rows (fun n => ((zs.take t).filter fun e => decide (e.2 = n)).map (·.1)) B' H')
      (fun B' H' l => ⟨o5, none, none, rfl, (xa.pure l).congr fun _ _ => rfl⟩) ?_ ?_
    · rintro t d v σ' Bb Hb N lb hd hv ⟨o5, o12, o13, rfl, xb⟩ hN
      rw [List.getElem?_map] at hd
      obtain ⟨z, hz, rfl⟩ := Option.map_eq_some_iff.mp hd
      have hzm := List.mem_of_getElem? hz
      refine gt2 (K := K) lb.h hv fun x y hx hy => ?_
      cases hx
      cases hy
      obtain ⟨u, r, hu1, hu2, hu3, hu4, hu5, hu6⟩ := xb.at (zsnd z hzm)
      refine q_asgR ⟨.ref pr, rfl, .int z.2, rfl, pr, .ref r, rfl, by have g := DGet.k (k := (.inl z.2 : Key)) xb.has; rw [hu6] at g; exact g, ?_⟩
      refine s_append (K := K) (p := r) (i := 13) (d := .int z.1) rfl (ev_var (i := 5) rfl (.int z.1)) lb.h hu5 hu4 (by
        rw [List.length_map, List.length_map]
        have := List.length_filter_le (fun e => decide (e.2 = z.2)) (zs.take t)
        rw [List.length_take] at this
        omega) fun v B' H' l' b' h' hv' => ?_
      cases hv'
      have h2 : H' r = some (.lst ((((zs.take t).filter fun e => decide (e.2 = z.2)).map (·.1) ++ [z.1]).map V.int)) := by rw [h', List.map_append]; rfl
      refine hN _ B' H' (l'.wk (by simp [hu3])) ⟨_, _, _, rfl, (xb.changed hu1 hu2 l' b' h2).congr fun k hk => ?_⟩
      rw [take_one hz, List.filter_append, List.map_append]
      by_cases y : k = z.2
      · subst y
        rw [if_pos rfl]
        simp
      · rw [if_neg y]
        have : ([z].filter fun e => decide (e.2 = k)) = [] := by
          rw [List.filter_cons, if_neg (by simp; exact fun h => y h.symm)]
          rfl
        rw [this, List.map_nil, List.append_nil]
    rintro σ' Bb Hb lb ⟨o5, o12, o13, rfl, xb⟩
    rw [List.length_map, List.take_length] at xb
    have wb := wa.pureM lb hgr
    obtain ⟨M, hM⟩ : ∃ M : Int → List Int, M = fun n => (zs.filter fun e => decide (e.2 = n)).map (·.1) := ⟨_, rfl⟩
    rw [← hM] at xb
    have V0 : EffV ks M := ⟨knd, by omega, by omega, fun k hk => sin k (pk.mem_iff.mp hk), by rw [hM]; exact ((group_perm knd zsnd).trans zfst).trans pk.symm⟩
    clear hM pz zfst zsnd
    have hv4b := (hv49.mono la.b).mono lb.b
    -- found
    refine q_asgR (od_pairs (K := K) (ns := ks) (F := tupI M) (ev_rowsT (i := 11) (jk := 5) (vs := [5]) xb (by omega) rfl (fun _ => rfl) (fun _ => rfl) (fun _ => rfl)) lb.h knd fun pf Bc Hc lc hpf xc => ?_)
    have wc := wb.pure lc
    have hgb : Hb g ≠ none := by
      obtain ⟨_, _, _, h, _⟩ := wb.has
      rw [h]
      simp
    have hpg3 : pf ≠ g := fun z => hgb (z ▸ hpf)
    -- the way here
    have q1 : Le [g] B3 H3 B7 H7 := ((l4.trans l5).wk (by simp)).trans l7 |>.narrow (M := [g]) fun r hr hg => by
      rcases List.mem_cons.mp hr with z | z
      · rw [z]; exact hp
      · exact absurd z hg
    have q2 : Le [g] B8 H8 Bb Hb := ((l9.any.trans (la.wk fun a ha => List.mem_append_right rows ha)).trans (lb.wk fun a ha => List.mem_append_left [g] ha)).narrow (M := [g]) fun r hr hg => by
      rcases List.mem_append.mp hr with z | z
      · exact hfr r z
      · exact absurd z hg
    have lt : Le [g] B H Bb Hb := ((((l1.trans l2).trans l3).trans q1).trans l8).trans q2
    have hpf0 : H pf = none := lt.back hpf
    have fin : ∀ (m' : Int → List Int) (B' H' : Hp), EffV ks m' → OD K pf ks (tupI m') B' H' → Le [pf, g] Bc Hc B' H' → Wl g (m0 + 4000) B' H' → Q (.ref pf) H' := fun m' B' H' V x l w => by
      obtain ⟨o, ho, hd⟩ := x.give
      have la : Le [pf, g] B H B' H' := ((lt.wk (by simp)).trans lc.any).trans l
      exact q (effT ks m') ⟨ks, m', rfl, V⟩ (.ref pf) _ H' ((la.give hpf0 x.own ho).local hpf0) (w.give hpg3) hd
    clear q1 q2
    -- if () in list(found.values())
    obtain ⟨o, ho, hd⟩ := xc.give
    have lv := ev_listVals (K := K) (ev_var (K := K) (σ := [some (.ref g), some (.int n), some (.int way), some (.int cnt), some v4, o5, some (.ref p), some (.int wide), o8, o9, o10, some (.ref pr), o12, o13, some (.ref pf), none, none]) (i := 14) (H := Hc) rfl hd)
    rw [show ks.map (tupI M) = (ks.map M).map tupB by rw [List.map_map]; rfl] at lv
    have tst := et_test (Ev.own (p := pf) (ev_op (ev_tup ea_nil (Nat.zero_le _)) lv (rv_inLT (b := []))) ho xc.own (fun h => by cases h; exact .bl _))
    clear lv
    refine q_when (k := decide (([] : List Int) ∈ ks.map M)) tst lc.h (fun hk Bd Hd ld => ?_) fun hk Bd Hd ld => ?_
    · exact ⟨.ref pf, rfl, fin M Bd Hd V0 (xc.pure ld (by simp)) ld.any ((wc.pure ld).mono (by omega))⟩
    have xd := xc.pure ld (by simp)
    have wd := wc.pure ld
    -- if count == 1 or _law_drop(jug, 4) == 0
    refine w_whenD (g := g) (c := 0 + 0 + (1 + 0)) (m := m0 + 3730 + 60 + 60) (S := fun k => k = false → cnt ≠ 1) (fun m B1 H1 hm l w Q q => ewt_or (g := g) (σ := [some (.ref g), some (.int n), some (.int way), some (.int cnt), some v4, o5, some (.ref p), some (.int wide), o8, o9, o10, some (.ref pr), o12, o13, some (.ref pf), none, none]) (ewt_eq (K := K) (P1 := (· = cnt)) (P2 := (· = 1)) (wi_var (i := 3) rfl rfl) (wi_c rfl)) (fun B1 H1 l => ewt_eq (K := K) (P1 := fun _ => True) (P2 := fun _ => True) (Ew.imp (ew_pailC (n := 4) rfl (fun _ _ _ => ev_c (.int 4)) (by decide) (by decide)) fun d h => by
        obtain ⟨r, rfl, _⟩ := h
        exact ⟨r, rfl, trivial⟩) (wi_c trivial)) m B1 H1 hm l w Q fun k B2 H2 s => q k B2 H2 fun hk => by
          obtain ⟨i, j, h1, h2, h3⟩ := s hk
          subst h1 h2
          exact of_decide_eq_false h3.symm) (by omega) ld.h wd (fun Be He _ le we => ?_) fun Be He hs le we => ?_
    · obtain ⟨kvs, hk1, hk2⟩ := (xd.pure le (by simp [hpg3])).keys
      have cm := ev_lcKeys (K := K) (σ := [some (.ref g), some (.int n), some (.int way), some (.int cnt), some v4, o5, some (.ref p), some (.int wide), o8, o9, o10, some (.ref pr), o12, o13, some (.ref pf), none, none]) (B := Be) (H := He) (i := 14) (jk := 5) (vs := [5]) (tt := tYes) (te := tTup (tCons (tVar 5) (tCons (tTup (tCons (tVar 5) tNil)) tNil))) (fun _ => true) (fun n => .tuple [.int n, .tuple [.int n]]) rfl hk1 hk2 (by omega) (fun od B1 H1 l1 B2 H2 l2 n hn => et_yes)
        (fun od B1 H1 l1 B2 H2 l2 n hn _ => ev_tup (ea_cons (ev_var rfl (.int n)) (ea_cons (ev_tup (ea_cons (ev_var rfl (.int n)) ea_nil) (size_ok (by show 1 ≤ 100000; decide))) ea_nil)) (size_ok (by show 2 ≤ 100000; decide))) (fun _ => rfl)
      rw [List.filter_eq_self.mpr (fun _ _ => rfl)] at cm
      refine a_ret (od_pairs (K := K) (ns := ks) (F := tupI fun n => [n]) cm le.h knd fun pz Bf Hf lf hpz xz => ?_)
      obtain ⟨o2, ho2, hd2⟩ := xz.give
      have lz : Le [g] B H Bf Hf := (((lt.trans lc.any).trans ld.any).trans le).trans lf.any
      have hpz0 : H pz = none := ((((lt.trans lc.any).trans ld.any).trans le)).back hpz
      have wz := we.pure lf
      exact q (effT ks fun n => [n]) ⟨ks, fun n => [n], rfl, V0.nd, V0.one, V0.len, V0.i60, by rw [flatMap_self fun a _ => rfl]⟩ (.ref pz) _ Hf (lz.give hpz0 xz.own ho2) ((wz.give (fun z => by obtain ⟨_, _, _, h, _⟩ := we.has; rw [← z, hpz] at h; cases h)).mono (by omega)) hd2
    -- one, two
    have c2 : cnt ≠ 1 := hs rfl
    have l2 : 2 ≤ ss.length := by omega
    obtain ⟨a, b, rest, rfl⟩ : ∃ a b rest, ss = a :: b :: rest := two_of l2
    have hv4e := ((hv4b.mono lc.b).mono ld.b).mono le.b
    refine q_parM ?_
    refine (ev_op (K := K) (x := .list ((a :: b :: rest).map PyData.int)) (y := .int 0) (z := .int a) (σ := [some (.ref g), some (.int n), some (.int way), some (.int cnt), some v4, o5, some (.ref p), some (.int wide), o8, o9, o10, some (.ref pr), o12, o13, some (.ref pf), none, none]) (ev_var (i := 4) rfl hv4e) (ev_c (.int 0)) (rv_ixL ?_)) Be He (Le.refl le.h) _ fun u Bf Hf lf hu => ?_
    · unfold atI ixN
      rw [if_pos (by decide), if_pos (by rw [List.length_map, List.length_cons, List.length_cons]; omega)]
      rfl
    cases hu
    refine (ev_op (K := K) (x := .list ((a :: b :: rest).map PyData.int)) (y := .int 1) (z := .int b) (σ := [some (.ref g), some (.int n), some (.int way), some (.int cnt), some v4, o5, some (.ref p), some (.int wide), o8, o9, o10, some (.ref pr), o12, o13, some (.ref pf), none, none]) (ev_var (i := 4) rfl (hv4e.mono lf.b)) (ev_c (.int 1)) (rv_ixL ?_)) Bf Hf (Le.refl lf.h) _ fun u Bg Hg lg hu => ?_
    · unfold atI ixN
      rw [if_pos (by decide), if_pos (by rw [List.length_map, List.length_cons, List.length_cons]; omega)]
      rfl
    cases hu
    refine ⟨_, _, rfl, ?_⟩
    have ha : a ∈ ks := pk.mem_iff.mpr (List.mem_cons_self ..)
    have hb : b ∈ ks := pk.mem_iff.mpr (List.mem_cons_of_mem _ (List.mem_cons_self ..))
    have hne : a ≠ b := fun z => (List.nodup_cons.mp snd).1 (z ▸ List.mem_cons_self ..)
    have xg := ((xd.pure le (by simp [hpg3])).pure lf (by simp)).pure lg (by simp)
    have bl := V0.perm.length_eq
    have add := ev_op (K := K) (σ := [some (.ref g), some (.int n), some (.int way), some (.int cnt), some v4, o5, some (.ref p), some (.int wide), o8, o9, o10, some (.ref pr), o12, o13, some (.ref pf), some (.int a), some (.int b)]) (xg.get (i := 14) (j := 15) rfl rfl ha) (xg.get (i := 14) (j := 16) rfl rfl hb) (rv_addT (size_ok (by
      rw [List.length_map, List.length_map]
      have h1 := blk_len V0.perm ha
      have h2 := blk_len V0.perm hb
      omega)))
    rw [← List.map_append] at add
    refine q_dputS (K := K) xg (by omega) lg.h add rfl rfl fun Bh Hh lh H' l' x' => ?_
    rw [if_pos ha] at x'
    refine q_dputS (K := K) x' (by omega) l'.h (ev_tup ea_nil (Nat.zero_le _)) rfl rfl fun Bi Hi li H'' l'' x'' => ?_
    rw [if_pos hb] at x''
    have V2 : EffV ks (fun k => if k = b then [] else if k = a then M a ++ M b else M k) := ⟨V0.nd, V0.one, V0.len, V0.i60, (two_perm V0.nd ha hb hne (fun k h1 h2 => by rw [if_neg h2, if_neg h1]) (by
      rw [if_neg hne, if_pos rfl, if_pos rfl, List.append_nil])).trans V0.perm⟩
    have wz := (((we.pure lf).pure lg).other l' hpg3).other l'' hpg3
    refine ⟨.ref pf, rfl, fin _ Bi H'' V2 (x''.congr fun k hk => ?_) ((((ld.any.trans (le.wk (by simp))).trans lf.any).trans lg.any).trans ((l'.trans l'').wk (by simp))) (wz.mono (by omega))⟩
    show (if k = b then PyData.tuple [] else if k = a then PyData.tuple ((M a ++ M b).map PyData.int) else tupI M k) = PyData.tuple ((if k = b then [] else if k = a then M a ++ M b else M k).map PyData.int)
    by_cases z1 : k = b
    · rw [if_pos z1, if_pos z1]
      rfl
    · rw [if_neg z1, if_neg z1]
      by_cases z2 : k = a
      · rw [if_pos z2, if_pos z2]
      · rw [if_neg z2, if_neg z2]
end
end K34

set_option maxRecDepth 100000
set_option maxHeartbeats 4000000
namespace MA
open PySem PySem.Spec PyProof.Rows L2
/-! ## sorted(set(a list of ints)) -/
abbrev noneSet (w : World) : Obj := { cls := .type "set", dict := none, data := .set #[] 0 (.fresh 0 0 (!w.params.followText "set-order")) }
section
variable {P : Program} {w : World} {A : Around} {E : Value → Shared → Prop} {s : Shared}
theorem call_set_lstI {z : Addr} {xs : Array Value} (ks : List Int) {Q : Value → Shared → Prop} (hA : A.handled = none) (hz : s.heap.IsList z xs) (hx : IntsAre xs.toList ks) (hb : ks.length + 1 < scanBound)
    (fin : ∀ (h' : Heap) (tk c : Nat), SetR w h' s.heap.objs.size (fun j => decide (j ∈ ks)) c → c ≤ ks.length → (∀ x u, s.heap.get? x = some u → h'.get? x = some u) → Q (.ref s.heap.objs.size) { s with heap := h', toks := tk }) :
    wpAny (model P w) A (call (.type "set") [.ref z]) Q E s := by
  have xsz : xs.size = ks.length := by
    have l := IntsAre.length hx
    rwa [Array.length_toList] at l
  obtain ⟨mc, ml, mo⟩ := F.called_set.mro
  have m1 := F.called_set.made
  have m2 := F.called_set.sub
  refine wpAny_call (codeAny_of_tree ?_)
  show wpAny _ _ (callAny (.type "set") _) _ _ _
  refine wpAny_pure ⟨Code.quiet_builtin _ (by decide +kernel), codeAny_builtin F.entry_type_call ?_⟩
  rw [Around.under_plain (weight_type_call_type "set" [.ref z] []) rfl]
  have m3 := F.called_set.notType
  have m4 := F.called_set.canCreate
  have m5 := F.typeCall_set_1 (.ref z)
  repeat (any_goals (first | assumption | wp_step))
  refine codeAny_mono (code_set_led1 (.ref z) (E := E) (Q₁ := fun o t => o = .ref s.heap.objs.size ∧ t = { s with heap := s.heap.push (noneSet w) }) ⟨rfl, rfl⟩) fun r t hr => ?_
  cases r with
  | error e => exact hr
  | ok fl =>
    cases fl with
    | ret o =>
      obtain ⟨rfl, rfl⟩ := hr
      have hS : (s.heap.push (noneSet w)).get? s.heap.objs.size = some (noneSet w) := Heap.get?_push_size _ rfl
      have hT : Shared.TypeIs { s with heap := s.heap.push (noneSet w) } (.ref s.heap.objs.size) "set" := ⟨_, hS, rfl⟩
      have m6 := F.called_set.init.lookup
      have m7 := F.called_set.init.bind (.ref s.heap.objs.size)
      repeat (any_goals (first | assumption | wp_step))
      refine codeAny_mono (codeAny_call_builtin (R := wants (fun r t => r = .none ∧ ∃ h' tk c, t = { s with heap := h', toks := tk } ∧ SetR w h' s.heap.objs.size (fun j => decide (j ∈ ks)) c ∧ c ≤ ks.length ∧ ∀ x u, s.heap.get? x = some u → h'.get? x = some u) E) F.called_set.init.plain F.entry_set_init (check_set_init_1 hT ?_)) fun r2 t2 hr2 => ?_
      · obtain ⟨ob, ho, hc, nn, hd⟩ := hz
        obtain ⟨oc, od, oda, osl⟩ := ob
        simp only at hc hd
        subst hc hd
        have ho' : (s.heap.push (noneSet w)).get? z = some { cls := .type "list", dict := od, data := .seq xs nn, slots := osl } := Heap.get?_push_of_some _ ho
        have n1 := F.sub_list_set
        have n2 := F.sub_list_frozenset
        have n3 : (Value.type "list" == Value.type "dict") = false := by decide
        have hl1 : (s.heap.push (noneSet w)).IsList z xs := ⟨_, ho', rfl, nn, rfl⟩
        unfold Builtin.«set.__init__» noKeywords Builtin.Frozenset.updateFrom
        generalize hPI : pyIter = PI
        wp_walk
        subst hPI
        refine wpAny_pyIter_list hl1 ?_
        refine wpAny_bind (wpAny_runValue ?_)
        have zl : z < s.heap.objs.size := Heap.lt_size ho
        have hA3 : A.in1.in1.in1.handled = none := by simp [hA]
        have psz : (s.heap.push (noneSet w)).objs.size = s.heap.objs.size + 1 := Heap.size_push ..
        have zne : z ≠ (s.heap.push (noneSet w)).objs.size := by rw [psz]; exact Nat.ne_of_lt (Nat.lt_succ_of_lt zl)
        have out : s.heap.objs.size ∉ [(s.heap.push (noneSet w)).objs.size, z] := by
          rw [psz]; simp only [List.mem_cons, List.not_mem_nil, or_false, not_or]
          exact ⟨Nat.ne_of_lt (Nat.lt_succ_self _), Nat.ne_of_gt zl⟩
        have val : ∀ (i : Nat) (v : Value), xs[i]? = some v → ∃ k t, ks[i]? = some k ∧ v = .int k t := fun i v hv => by
          have hi : i < ks.length := by rw [← xsz]; exact (Array.getElem?_eq_some_iff.mp hv).1
          obtain ⟨t, et⟩ := PyProof.Rows.IntsAre.int_at hx i v (by rw [Array.getElem?_toList]; exact hv)
          refine ⟨ks[i], t, List.getElem?_eq_getElem hi, ?_⟩
          rw [et, List.getD_eq_getElem?_getD, List.getElem?_eq_getElem hi] <;> rfl
        refine set_update_ints ((Walks.list hA3 _ z zne xs).toS) s.heap.objs.size out ks xsz hb val (xs.size - 0) 0 _ (by omega) (Nat.zero_le _) ⟨⟨_, Heap.get?_push_size _ rfl, rfl, rfl⟩, (hl1.push _)⟩ ?start ?last
        case start =>
          have e0 : ((s.heap.push (noneSet w)).push { cls := .type "list_iterator", data := .fields #[.ref z, .int 0 0] }).get? s.heap.objs.size = some (noneSet w) := Heap.get?_push_of_some _ hS
          exact ⟨0, Nat.le_refl 0, setR_new_at e0⟩
        case last =>
          intro t3 c mv hc hR
          obtain ⟨h', g2, d2, tk2, o2⟩ := t3
          have e1 : g2 = s.gens := mv.gens
          have e2 : d2 = s.drawn := mv.drawn
          have e3 : o2 = s.os := mv.os
          subst e1 e2 e3
          show wpAny _ _ _ _ _ _
          refine wpAny_pure ?_
          show wpAny _ _ (ret Value.none) _ _ _
          rw [xsz] at hc
          refine wpAny_pure ⟨rfl, h', tk2, c, rfl, hR, hc, fun x u e => ?_⟩
          have x0 : x < s.heap.objs.size := Heap.lt_size e
          have x1 : x ≠ s.heap.objs.size := Nat.ne_of_lt x0
          have x2 : x ≠ (s.heap.push (noneSet w)).objs.size := by rw [psz]; exact Nat.ne_of_lt (Nat.lt_succ_of_lt x0)
          exact mv.heap x u (by simp only [List.mem_cons, List.not_mem_nil, or_false, not_or]; exact ⟨x1, x2⟩) (Heap.get?_push_of_some _ (Heap.get?_push_of_some _ e))
      · cases r2 with
        | error e => exact hr2
        | ok f2 =>
          cases f2 with
          | ret r =>
            obtain ⟨rfl, h', tk, c, rfl, q1, q2, q3⟩ := hr2
            repeat (any_goals (first | assumption | wp_step))
            exact fin _ _ _ q1 q2 q3
          | _ => exact hr2.elim
    | _ => exact hr.elim
end
def rSetOfL (K : PySem.W.Frag) (w : World) : List V → Hp → VK → Prop := fun vs H Q => ∃ (a : Addr) (ks : List Int), vs = [.ref a] ∧ SqL K H a (ks.map V.int) ∧ ks.length ≤ 1000 ∧ ∀ p, H p = none → Q (.ref p) (upd H p (SetO w p (fun j => decide (j ∈ ks)) (dcount ks)))
theorem cr_setL {X : Cx} (hc : X.calm = true) : CallR X (.type "set") (rSetOfL X.K X.w) := by
  intro pins s σ H vs us Q I r h
  obtain ⟨a, ks, rfl, ha, hz, q⟩ := h
  rw [Vals.ref1 r]
  obtain ⟨its, rv, pl, hlen⟩ := I.list ha
  have l := rv.length
  rw [List.length_map] at l
  refine call_set_lstI ks (I.ok.hd hc) pl.isList (by simpa using ints_of_vals rv) (by unfold scanBound; omega) fun h' tk c R hcl hk => ?_
  have hn : H s.heap.objs.size = none := I.hok.fresh (Nat.le_refl _)
  have ec : c = dcount ks := by
    obtain ⟨o, es, ep, t, ho, hex, hd, _, hnd, hmem, hb, hf, hn, _⟩ := R
    have e := nodup_count ks (es.toList.map keyOf) hnd fun k => by
      rw [← hmem k]
      simp
    rw [List.length_map, Array.length_toList] at e
    omega
  subst ec
  exact ⟨.ref _, _, I.laid (t' := tk) (o := SetO X.w s.heap.objs.size (fun j => decide (j ∈ ks)) (dcount ks)) hk (Nat.le_refl _) (setO_new R), rfl, q _ hn⟩
theorem ev_sortedSetL {K : PySem.W.Frag} {w : World} {σ : L2.St} {B H : Hp} {tl : TE} {ks zs : List Int} (h : Ev K tl σ B H (.list (ks.map PyData.int))) (hk : ks.length ≤ 1000) (h1 : zs.Pairwise (· < ·)) (hm : ∀ k, k ∈ zs ↔ k ∈ ks) (h60 : zs.length < 64) :
    Ev K (tCB (rSortedSet w) (tCons (tCB (rSetOfL K w) (tCons tl tNil)) tNil)) σ B H (.list (zs.map PyData.int)) := fun B1 H1 l Q q => by
  have dc : dcount ks = zs.length := (nodup_count ks zs (h1.imp fun h => Int.ne_of_lt h) hm).symm
  refine h B1 H1 l _ fun v B2 H2 l2 hv => ?_
  cases hv with
  | lst hs hq =>
    rename_i a ys
    cases ofInts hq
    refine ⟨a, ks, rfl, .inl (.inl (l2.h _ _ hs)), hk, fun p hp => ?_⟩
    have lp : Le [] B2 H2 B2 (upd H2 p (SetO w p (fun j => decide (j ∈ ks)) (dcount ks))) := Le.made l2.h hp
    refine ⟨p, _, _, rfl, upd_same, by omega, fun ns p2 n1 n2 n3 n4 => ?_⟩
    have en : ns = zs := asc_eq n1 h1 fun k => by
      rw [n2 k, hm k]
      simp
    subst en
    exact q (.ref p2) _ _ ((l2.trans lp).trans (Le.new lp.h n4)) (.lst upd_same (dqInts _))
end MA

set_option maxRecDepth 100000
set_option maxHeartbeats 4000000
namespace MA
open PySem PySem.Spec PyProof.Rows L2
/-! ## l[::-1] of a list -/
def tBackL (K : PySem.W.Frag) (te : TE) : TE := fun σ H Q => te σ H fun x H1 => ∃ a xs, x = .ref a ∧ SqL K H1 a xs ∧ ∀ p, H1 p = none → Q (.ref p) (upd H1 p (.lst xs.reverse))

theorem pe_backL {X : Cx} {e : Expr} {te : TE} {k : Nat} {p1 p2 p3 pos : Pos} (he : PE X e te) : PE X (.Subscript e (.Slice none none (some (.UnaryOp .USub (.Constant (.int 1) k p1) p2)) p3) pos) (tBackL X.K te) := by
  refine ⟨fun pins s σ H Q I h => ?_⟩
  refine Subscript_ (thn (he.run pins s σ H _ I h) fun v s1 ⟨x, H1, I1, r1, a, xs, ex, hx, q⟩ => ?_)
  subst ex
  cases r1
  have hst : L2.PO X (some (.UnaryOp .USub (.Constant (.int 1) k p1) p2)) (tPart (tUn (rU fun i => .int (-i)) (tC (.int 1)))) := po_some (pe_un un_neg pe_int)
  refine wpAny_Slice (thn (po_none.run pins s1 σ H1 (fun o H2 => o = none ∧ H2 = H1) I1 ⟨rfl, rfl⟩) fun vl s2 ⟨l, H2, I2, pl, el, e2⟩ => ?_)
  subst el e2
  refine thn (po_none.run pins s2 σ H2 (fun o H3 => o = none ∧ H3 = H2) I2 ⟨rfl, rfl⟩) fun vu s3 ⟨u, H3, I3, pu, eu, e3⟩ => ?_
  subst eu e3
  refine thn (hst.run pins s3 σ H3 (fun o H4 => o = some (-1) ∧ H4 = H3) I3 ⟨1, rfl, -1, rfl, rfl, rfl⟩) fun vs s4 ⟨o, H4, I4, ps, eo, e4⟩ => ?_
  subst eo e4
  have I5 : Inv X pins σ H4 { s4 with heap := s4.heap.push { cls := .type "slice", data := .fields #[vl, vu, vs] } } := I4.kept (t' := s4.toks) fun b ob q => Heap.get?_push_of_some _ q
  obtain ⟨its, r, ht, hz⟩ := I5.list hx
  have hlen := r.length
  show wpAny (model X.prog X.w) X.A (subscriptTail e (.Slice none none (some (.UnaryOp .USub (.Constant (.int 1) k p1) p2)) p3) (.ref a) (.ref s4.heap.objs.size)) (EP X pins σ Q) X.xe { s4 with heap := s4.heap.push { cls := .type "slice", data := .fields #[vl, vu, vs] } }
  refine tail_any (ops := [.ref a, .ref s4.heap.objs.size]) ht.isList.typeIs list_getitem_lookup ?_ (by with_unfolding_all rfl)
  refine wpAny_getItem_list_slice ht.isList (Heap.IsSliceOf.new _ vl vu vs) pl pu ps (by decide) ?_ (by rw [List.size_toArray]; omega)
  rw [PySem.W.krv_pick]
  refine ⟨.ref _, _, I5.laid (t' := s4.toks) (o := .lst xs.reverse) (fun b ob q => Heap.get?_push_of_some _ q) (Nat.le_refl _) ?_, rfl, q _ (I5.hok.fresh (Nat.le_refl _))⟩
  exact ⟨by rw [List.length_reverse]; exact hz, _, 0, r.reverse, Heap.get?_push_size _ rfl⟩
theorem ev_backL {K : PySem.W.Frag} {σ : L2.St} {B H : Hp} {te : TE} {ds : List PyData} (h : Ev K te σ B H (.list ds)) : Ev K (tBackL K te) σ B H (.list ds.reverse) := fun B1 H1 l Q q =>
  h B1 H1 l _ fun v B2 H2 l2 hv => by
    cases hv with
    | lst h1 q1 => exact ⟨_, _, rfl, .inl (.inl (l2.h _ _ h1)), fun p hp => q _ _ _ (l2.trans (Le.new l2.h hp)) (.lst upd_same (q1.reverse.mono (Le.new (M := []) l2.h hp).b))⟩
/-! ## == of dicts whose keys stand otherwise -/
def rEqP (K : PySem.W.Frag) (neg : Bool) : R2 := fun x y H Q => ∃ (B : Hp) (ns ns' : List Int) (m m' : Int → List Int), Ex B H ∧ Dq K B x (effM ns fun n => .tuple ((m n).map PyData.int)) ∧ Dq K B y (effM ns' fun n => .tuple ((m' n).map PyData.int)) ∧ ns.length = ns'.length ∧ (∀ n ∈ ns, n ∈ ns') ∧ Q (.bl (xor neg (sameM ns m m'))) H
section
variable {X : Cx} {pins : List (Addr × Obj)} {σ : L2.St} {B H : Hp} {s : Shared}
theorem eqP_parts {x y : V} {v u : Value} {ns ns' : List Int} {m m' : Int → List Int} (I : Inv X pins σ H s) (e : Ex B H) (hu : X.A.units + 65 < cLine) (hx : Dq X.K B x (effM ns fun n => .tuple ((m n).map PyData.int))) (hy : Dq X.K B y (effM ns' fun n => .tuple ((m' n).map PyData.int))) (hl : ns.length = ns'.length) (hs : ∀ n ∈ ns, n ∈ ns') (rx : RelV x v) (ry : RelV y u) :
    ∃ (a b : Addr) (va vb : List (Key × Value)), v = .ref a ∧ u = .ref b ∧ (a == sysModules) = false ∧ (b == sysModules) = false ∧ s.heap.DictOf (mixKind X.prog X.w) a va ∧ s.heap.DictOf (mixKind X.prog X.w) b vb ∧ va.length = vb.length ∧ PySem.W.KeqHits X.A.in1 s vb va (sameM ns m m') := by
  unfold effM at hx hy
  generalize hE : ns.map (fun n => (PyData.int n, PyData.tuple ((m n).map PyData.int))) = L at hx
  generalize hE2 : ns'.map (fun n => (PyData.int n, PyData.tuple ((m' n).map PyData.int))) = L2 at hy
  cases hx with
  | dct hd hq =>
    rename_i a kvs ds
    cases hy with
    | dct hd2 hq2 =>
      rename_i b lvs es
      obtain ⟨z1, z2⟩ := zip_parts (by have := hq.length; rwa [List.length_map] at this) hE.symm
      have hv := fun n => zip_val (K := X.K) (H := B) n hq2 hE2.symm
      obtain ⟨z3, z4⟩ := zip_parts (by have := hq2.length; rwa [List.length_map] at this) hE2.symm
      subst z2
      obtain rfl : v = Value.ref a := rx
      obtain rfl : u = Value.ref b := ry
      obtain ⟨_, ya, va, ra, da⟩ := (show ObjOk X.prog X.w H s.heap a (.dK kvs) from I.hok a _ (e _ _ hd))
      obtain ⟨_, yb, vb, rb, db⟩ := (show ObjOk X.prog X.w H s.heap b (.dK lvs) from I.hok b _ (e _ _ hd2))
      refine ⟨a, b, va, vb, rfl, rfl, ya, yb, da, db, ?_, ?_⟩
      · rw [← ra.length, ← rb.length]
        have h1 := congrArg List.length z1
        have h2 := congrArg List.length z3
        rw [List.length_map, List.length_map] at h1 h2
        omega
      · refine hits_M I e (by show X.A.units + 1 + 64 < cLine; omega) rb (ns := ns') (fun n hn => ?_) ra z1 hq hs
        have := hv n
        rw [if_pos hn] at this
        exact this
theorem op_eqP (hu : X.A.units + 65 < cLine) : OpR X (compareOp .Eq) (rEqP X.K false) := by
  intro pins s σ H x y v u Q I rx ry h
  obtain ⟨B, ns, ns', m, m', e, hx, hy, h1, h2, q⟩ := h
  obtain ⟨a, b, va, vb, rfl, rfl, ya, yb, da, db, hl, hh⟩ := eqP_parts I e hu hx hy h1 h2 rx ry
  exact PySem.W.keq_eq (knd := mixKind X.prog X.w) (r := sameM ns m m') ya yb da db (by omega) (fun _ => hh) (fin_bl I q (by simp [hl]))
end
section
variable {K : PySem.W.Frag} {σ : L2.St} {B H : Hp} {ns : List Int} {F : Int → PyData}
theorem rv_P {neg : Bool} {ns ns' : List Int} {m m' : Int → List Int} (hl : ns.length = ns'.length) (hs : ∀ n ∈ ns, n ∈ ns') : RV K (rEqP K neg) (effM ns fun n => .tuple ((m n).map PyData.int)) (effM ns' fun n => .tuple ((m' n).map PyData.int)) (.bool (xor neg (sameM ns m m'))) := fun B H v u e hv hu Q q =>
  ⟨B, ns, ns', m, m', e, hv, hu, hl, hs, q _ B H (Le.refl e) (.bl _)⟩
/-! ## lists of bools; x is not False -/
theorem rv_notBl {a b : Bool} : RV K rNotB (.bool a) (.bool b) (.bool (!decide (a = b))) := fun B H v u e hv hu Q q => by
  cases hv
  cases hu
  exact ⟨a, b, rfl, rfl, q _ B H (Le.refl e) (.bl _)⟩
theorem ofBools {H : Hp} : ∀ {vs : List V} {bs : List Bool}, DqAll K H vs (bs.map PyData.bool) → vs = bs.map V.bl
  | _, [], h => by cases h; rfl
  | _, b :: bs, h => by
    cases h with
    | cons h q =>
      cases h
      rw [ofBools q]
      rfl
theorem dpBools {H : Hp} : ∀ bs : List Bool, DpAll K H (bs.map V.bl) (bs.map PyData.bool)
  | [] => .nil
  | b :: bs => .cons (.bl b) (dpBools bs)
theorem lay_bools : ∀ bs : List Bool, PyData.canLayAll0 (bs.map PyData.bool) = true
  | [] => rfl
  | b :: bs => by
    show (PyData.canLay0 (.bool b) && PyData.canLayAll0 (bs.map PyData.bool)) = true
    rw [lay_bools bs]
    rfl
theorem depth_bools : ∀ bs : List Bool, PyData.depthAll (bs.map PyData.bool) = 0
  | [] => rfl
  | b :: bs => by
    show max (PyData.depth (.bool b)) (PyData.depthAll (bs.map PyData.bool)) = 0
    rw [depth_bools bs]
    rfl
theorem shaped_LB (bs : List Bool) : SeqAt.shaped (.list (bs.map PyData.bool)) = true := by
  show (PyData.canLayAll0 (bs.map PyData.bool) && decide (PyData.depthAll (bs.map PyData.bool) + 1 ≤ 64)) = true
  rw [lay_bools, depth_bools]
  rfl
theorem eqv_bools : ∀ as bs : List Bool, PyData.eqvAll (as.map PyData.bool) (bs.map PyData.bool) = decide (as = bs)
  | [], [] => by simp [PyData.eqvAll]
  | [], _ :: _ => by simp [PyData.eqvAll]
  | _ :: _, [] => by simp [PyData.eqvAll]
  | a :: as, b :: bs => by
    show (PyData.eqv (.bool a) (.bool b) && PyData.eqvAll (as.map PyData.bool) (bs.map PyData.bool)) = _
    rw [eqv_bools as bs]
    have : PyData.eqv (.bool a) (.bool b) = decide (a = b) := by cases a <;> cases b <;> rfl
    rw [this]
    by_cases z : a = b <;> by_cases y : as = bs <;> simp [z, y]
theorem rv_eqLB {as bs : List Bool} : RV K (rEqD K) (.list (as.map PyData.bool)) (.list (bs.map PyData.bool)) (.bool (decide (as = bs))) := fun B H v u e hv hu Q q => by
  cases hv with
  | lst h1 q1 =>
    cases hu with
    | lst h2 q2 =>
      cases ofBools q1
      cases ofBools q2
      refine ⟨.list (as.map PyData.bool), .list (bs.map PyData.bool), .lst (.inl (.inl (e _ _ h1))) (dpBools _), .lst (.inl (.inl (e _ _ h2))) (dpBools _), shaped_LB _, shaped_LB _, ?_⟩
      rw [show PyData.eqv (.list (as.map PyData.bool)) (.list (bs.map PyData.bool)) = decide (as = bs) from by simp only [PyData.eqv]; exact eqv_bools as bs]
      exact q _ B H (Le.refl e) (.bl _)
theorem rv_neLB {as bs : List Bool} : RV K (rNeD K) (.list (as.map PyData.bool)) (.list (bs.map PyData.bool)) (.bool (!decide (as = bs))) := fun B H v u e hv hu Q q => by
  cases hv with
  | lst h1 q1 =>
    cases hu with
    | lst h2 q2 =>
      cases ofBools q1
      cases ofBools q2
      refine ⟨.list (as.map PyData.bool), .list (bs.map PyData.bool), .lst (.inl (.inl (e _ _ h1))) (dpBools _), .lst (.inl (.inl (e _ _ h2))) (dpBools _), shaped_LB _, shaped_LB _, ?_⟩
      rw [show PyData.eqv (.list (as.map PyData.bool)) (.list (bs.map PyData.bool)) = decide (as = bs) from by simp only [PyData.eqv]; exact eqv_bools as bs]
      exact q _ B H (Le.refl e) (.bl _)
/-! ## list(d.items()) -/
theorem paired_nth {α β : Type} {R : α → β → Prop} : ∀ {xs : List α} {ys : List β}, Paired R xs ys → xs.length = ys.length ∧ ∀ (j : Nat) x, xs[j]? = some x → ∃ y, ys[j]? = some y ∧ R x y
  | _, _, .nil => ⟨rfl, fun j x h => by simp at h⟩
  | _, _, .cons h t => by
    obtain ⟨l, n⟩ := paired_nth t
    refine ⟨by simp [l], fun j x hx => ?_⟩
    cases j with
    | zero => simp at hx; subst hx; exact ⟨_, rfl, h⟩
    | succ j => exact n j x (by simpa using hx)
theorem ev_listItems {td : TE} (h : Ev K td σ B H (effM ns F)) : Ev K (LiI.tListItems td) σ B H (.list (ns.map fun n => .tuple [.int n, F n])) := fun B1 H1 l Q q => by
  refine h B1 H1 l _ fun v B2 H2 l2 hv => ?_
  unfold effM at hv
  generalize hE : ns.map (fun n => (PyData.int n, F n)) = L at hv
  cases hv with
  | dct hd hq =>
    rename_i d kvs ds
    obtain ⟨z1, z2⟩ := zip_parts (by have := hq.length; rwa [List.length_map] at this) hE.symm
    subst z2
    refine ⟨d, kvs, rfl, l2.h _ _ hd, fun H' p ts k1 k2 k3 k4 k5 k6 => ?_⟩
    obtain ⟨tl, tn⟩ := paired_nth k6
    have kl : kvs.length = ns.length := by have := congrArg List.length z1; rwa [List.length_map, List.length_map] at this
    have la := Le.adds (as := p :: ts) l2.h k1 fun a ha => (List.mem_cons.mp ha).elim (fun z => z ▸ k2) (k3 a)
    refine q (.ref p) _ H' (l2.trans la) (.lst (by show (if p ∈ p :: ts then H' p else _) = _; rw [if_pos (List.mem_cons_self ..)]; exact k5) (dqall_of (by rw [List.length_map, List.length_map]; omega) fun j v e h1 h2 => ?_))
    rw [List.getElem?_map] at h1 h2
    obtain ⟨t, ht, rfl⟩ := Option.map_eq_some_iff.mp h1
    obtain ⟨n, hn, rfl⟩ := Option.map_eq_some_iff.mp h2
    obtain ⟨⟨k, y⟩, e1, e2⟩ := tn j t ht
    have ek : k = .inl n := by
      have := congrArg (fun l => l[j]?) z1
      simp only [List.getElem?_map, e1, hn, Option.map_some] at this
      exact Option.some.inj this
    subst ek
    obtain ⟨dd, f1, f2⟩ := hq.get (i := j) (v := y) (by rw [List.getElem?_map, e1]; rfl)
    rw [List.getElem?_map, hn] at f1
    cases f1
    exact .tup (.inl (.inl (by show (if t ∈ p :: ts then H' t else _) = _; rw [if_pos (List.mem_cons_of_mem _ (List.mem_of_getElem? ht))]; exact e2))) (.cons (.int n) (.cons (f2.mono la.b) .nil))
/-! ## d.pop(k), a dict of ours -/
theorem kvs_drop {n : Int} : ∀ {ns : List Int} {ys : List V}, ns.length = ys.length → DqAll K B ys (ns.map F) → ∃ zs, (ns.filter fun k => !decide (k = n)).length = zs.length ∧ dropK (kvsOf ns ys) (.inl n : Key) = kvsOf (ns.filter fun k => !decide (k = n)) zs ∧ DqAll K B zs ((ns.filter fun k => !decide (k = n)).map F)
  | [], [], _, _ => ⟨[], rfl, rfl, .nil⟩
  | [], _ :: _, h, _ => by cases h
  | _ :: _, [], h, _ => by cases h
  | a :: ns, y :: ys, h, hq => by
    cases hq with
    | cons h1 h2 =>
      obtain ⟨zs, e1, e2, e3⟩ := kvs_drop (n := n) (by simpa using h) h2
      have ed : dropK (kvsOf (a :: ns) (y :: ys)) (.inl n : Key) = if a = n then dropK (kvsOf ns ys) (.inl n) else ((Sum.inl a : Key), y) :: dropK (kvsOf ns ys) (.inl n) := by
        show List.filter _ (((Sum.inl a : Key), y) :: kvsOf ns ys) = _
        rw [List.filter_cons]
        by_cases z : a = n
        · subst z
          rw [if_neg (by simp), if_pos rfl]
          rfl
        · rw [if_pos (by simp [z]), if_neg z]
          rfl
      rw [ed, List.filter_cons]
      by_cases z : a = n
      · rw [if_pos z, if_neg (by simp [z])]
        exact ⟨zs, e1, e2, e3⟩
      · rw [if_neg z, if_pos (by simp [z])]
        exact ⟨y :: zs, by simp [e1], by rw [e2]; rfl, .cons h1 e3⟩
theorem q_dpop {p : Addr} {i j : Nat} {n : Int} {tz : TS} {D : Ends} (x : OD K p ns F B H) (e : Ex B H) (hn : n ∈ ns) (hi : σ[i]? = some (some (.ref p))) (hj : σ[j]? = some (some (.int n)))
    (q : ∀ B' H', Le [p] B H B' H' → OD K p (ns.filter fun k => !decide (k = n)) F B' H' → tz D σ H') : tSeq (tDrop (tDPop1 (tVar i) (tVar j))) tz D σ H := by
  obtain ⟨v, kvs, h1, h2, h3⟩ := x.value hn
  obtain ⟨ys, y1, y2, y3⟩ := x.has
  obtain ⟨zs, e1, e2, e3⟩ := kvs_drop (n := n) y1 y3
  rw [y2] at h1
  cases h1
  refine ⟨.ref p, hi, p, rfl, .inl ⟨_, .inl y2⟩, .int n, hj, _, .inl n, v, y2, rfl, h2, ?_⟩
  rw [e2]
  exact q B _ (Le.put e x.own (by simp)) ⟨x.own, x.nd.filter _, zs, e1, upd_same, e3⟩
end
end MA

set_option maxRecDepth 100000
set_option maxHeartbeats 2000000
namespace MA
open PySem PySem.Spec PyProof.Rows L2
section
variable {K : PySem.W.Frag} {g : Addr} {σ : L2.St} {B H : Hp} {te : TE} {D : Ends} {tb tz : TS} {gg gn : TG} {R : PyData → Prop} {c m : Nat}
/-- for k in range(n), some things of ours may change within -/
theorem s_forR1 {ts : TA} {n : Nat} (M : List Addr) (ha : EvA K ts σ B H [.int (n : Nat)]) (hn : n ≤ 1000) (e : Ex B H) (I : Nat → L2.St → Hp → Hp → Prop) (h0 : ∀ B1 H1, Le [] B H B1 H1 → I 0 σ B1 H1)
    (hs : ∀ (i : Nat) σ' B' H' N, Le M B H B' H' → i < n → I i σ' B' H' → (∀ σ3 B3 H3, Le M B' H' B3 H3 → I (i + 1) σ3 B3 H3 → N σ3 H3) → gg (.int (i : Nat)) σ' H' fun σ2 H2 => tb { D with nx := N, ct := N, bk := D.nx } σ2 H2)
    (hd : ∀ σ' B' H', Le M B H B' H' → I n σ' B' H' → D.nx σ' H') : tFor (iRng1 ts) gg tb D σ H := by
  refine ha B H (Le.refl e) _ fun us B1 H1 l1 hus => ?_
  obtain ⟨u, rfl, h1⟩ := dq1 hus
  cases h1
  refine ⟨(n : Nat), rfl, by omega, by omega, ?_⟩
  rw [show ((n : Nat) : Int).toNat = n by omega]
  refine for_range (lo := 0) (n := n) (fun i σ' H' => ∃ B', Le M B1 H1 B' H' ∧ I i σ' B' H') ⟨B1, Le.refl l1.h, h0 B1 H1 l1⟩ (fun i σ' H' hi p => ?_) (fun σ' H' p => ?_)
  · obtain ⟨B', l, hI⟩ := p
    rw [Int.zero_add]
    exact hs i σ' B' H' _ (l1.any.trans l) hi hI fun σ3 B3 H3 l3 hI3 => ⟨B3, l.trans l3, hI3⟩
  · obtain ⟨B', l, hI⟩ := p
    exact hd σ' B' H' (l1.any.trans l) hI
theorem q_forR1 {ts : TA} {n : Nat} (M : List Addr) (ha : EvA K ts σ B H [.int (n : Nat)]) (hn : n ≤ 1000) (e : Ex B H) (I : Nat → L2.St → Hp → Hp → Prop) (h0 : ∀ B1 H1, Le [] B H B1 H1 → I 0 σ B1 H1)
    (hs : ∀ (i : Nat) σ' B' H' N, Le M B H B' H' → i < n → I i σ' B' H' → (∀ σ3 B3 H3, Le M B' H' B3 H3 → I (i + 1) σ3 B3 H3 → N σ3 H3) → gg (.int (i : Nat)) σ' H' fun σ2 H2 => tb { D with nx := N, ct := N, bk := tz D } σ2 H2)
    (hd : ∀ σ' B' H', Le M B H B' H' → I n σ' B' H' → tz D σ' H') : tSeq (tFor (iRng1 ts) gg tb) tz D σ H := s_forR1 (D := { D with nx := tz D }) M ha hn e I h0 hs hd
/-- a call of a built-in with a drawn argument -/
theorem w_cb1 {rr : List V → Hp → VK → Prop} (hl : Ew K g c te σ B H R) (hm : m + c ≤ 1000000) (e : Ex B H) (w : Wl g m B H)
    (q : ∀ d v B' H', R d → Le [g] B H B' H' → Wl g (m + c) B' H' → Dq K B' v d → tSeq (tAsg (tCB rr (tCons (fun _ H Q => Q v H) tNil)) gn) tz D σ H') : tSeq (tAsg (tCB rr (tCons te tNil)) gn) tz D σ H := by
  refine hl m B H hm (Le.refl e) w _ fun d v B' H' hd l w' hv => ?_
  exact q d v B' H' hd l w' hv
/-- a dict of ours, given away at once -/
theorem OD.given {p : Addr} {ns : List Int} {F : Int → PyData} {B0 H0 : Hp} (x : OD K p ns F B H) (l : Le [] B0 H0 B H) (hp : H0 p = none) : ∃ B', Le [] B0 H0 B' H ∧ Dq K B' (.ref p) (effM ns F) ∧ Ex B B' := by
  obtain ⟨o, ho, hd⟩ := x.give
  exact ⟨_, l.give hp x.own ho, hd, Evl.Ex.new x.own⟩
end
theorem pl_bool (b : Bool) : Pl 0 70 (.bool b) := by cases b <;> exact pl_of (by decide +kernel)
theorem ov_bool (b : Bool) : Ov (.bool b) := ⟨(pl_bool b).od.mono (by decide) (by decide), by cases b <;> decide +kernel⟩
end MA

set_option maxRecDepth 100000
set_option maxHeartbeats 16000000
namespace K34
open PySem PySem.Spec PyProof.Rows L2 MA
/-! a script, its named items, effects of them -/
def c1I : PyData → Int
  | .tuple [_, .int i, _] => i
  | _ => 0
def c2I : PyData → Int
  | .tuple [_, _, .int i] => i
  | _ => 0
theorem named_two {cs : List PyData} (h : ∀ c ∈ cs, isCommandD c = true) (k : Int) : k ∈ namedI cs ↔ k ∈ cs.map c1I ++ cs.map c2I := by
  rw [List.mem_append, List.mem_map, List.mem_map]
  constructor
  · intro hk
    obtain ⟨k0, k1, hp⟩ := mem_below.mp hk
    obtain ⟨c, hc, hkc⟩ := List.any_eq_true.mp hp
    obtain ⟨x, i, j, rfl, hw, a1, a2, b1, b2, hne⟩ := command_of (h c hc)
    have : k = i ∨ k = j := by simpa [itemsD, itemI] using hkc
    rcases this with z | z
    · exact .inl ⟨_, hc, z.symm⟩
    · exact .inr ⟨_, hc, z.symm⟩
  · rintro (⟨c, hc, rfl⟩ | ⟨c, hc, rfl⟩)
    · obtain ⟨x, i, j, rfl, hw, hi, hj, hne⟩ := good_of h c hc
      exact hi
    · obtain ⟨x, i, j, rfl, hw, hi, hj, hne⟩ := good_of h c hc
      exact hj
theorem named_ge2 {cs : List PyData} (h : ∀ c ∈ cs, isCommandD c = true) (h1 : 1 ≤ cs.length) : 2 ≤ (namedI cs).length := by
  cases cs with
  | nil => cases h1
  | cons c cs =>
    obtain ⟨x, i, j, rfl, hw, hi, hj, hne⟩ := good_of h c (List.mem_cons_self ..)
    generalize namedI (PyData.tuple [.str x, .int i, .int j] :: cs) = ns at hi hj
    match ns, hi, hj with
    | [], hi, _ => cases hi
    | [a], hi, hj => exact absurd ((List.mem_singleton.mp hi).trans (List.mem_singleton.mp hj).symm) hne
    | _ :: _ :: _, _, _ => simp
theorem own_perm {cs : List PyData} (h : ∀ c ∈ cs, isCommandD c = true) : ((namedI cs).flatMap (scrMap cs)).Perm (namedI cs) := by
  have := take_perm (named_nd cs) (good_of h) cs.length
  rwa [List.take_length] at this
theorem own_eff {cs : List PyData} (h : ∀ c ∈ cs, isCommandD c = true) (h1 : 1 ≤ cs.length) : EffV (namedI cs) (scrMap cs) :=
  ⟨named_nd cs, by have := named_ge2 h h1; omega, named_len cs, fun k hk => named_in hk, own_perm h⟩
theorem un_self {cs : List PyData} (h : ∀ c ∈ cs, isCommandD c = true) {k : Int} (hk : k ∉ namedI cs) : scrMap cs k = [k] := scrMap_other hk (good_of h)
theorem wide_eff {cs : List PyData} (h : ∀ c ∈ cs, isCommandD c = true) (h1 : 1 ≤ cs.length) {xs : List Int} (nd : xs.Nodup) (hx : ∀ k ∈ xs, (0 ≤ k ∧ k < 60) ∧ k ∉ namedI cs) (hl : (namedI cs).length + xs.length ≤ 60) : EffV ((namedI cs).reverse ++ xs) (scrMap cs) := by
  refine ⟨?_, ?_, ?_, fun k hk => ?_, ?_⟩
  · rw [List.nodup_append]
    exact ⟨(List.reverse_perm _).nodup_iff.mpr (named_nd cs), nd, fun a ha b hb z => (hx b hb).2 (z ▸ List.mem_reverse.mp ha)⟩
  · have := named_ge2 h h1
    rw [List.length_append, List.length_reverse]
    omega
  · rw [List.length_append, List.length_reverse]
    exact hl
  · rcases List.mem_append.mp hk with z | z
    · exact named_in (List.mem_reverse.mp z)
    · exact (hx k z).1
  · rw [List.flatMap_append]
    refine List.Perm.append (((List.reverse_perm _).flatMap_right _).trans ((own_perm h).trans (List.reverse_perm _).symm)) ?_
    rw [flat_same (f := scrMap cs) (g := fun k => [k]) fun k hk => un_self h (hx k hk).2, flatMap_self fun a _ => rfl]
theorem has_yes {cs : List PyData} (h : ∀ c ∈ cs, isCommandD c = true) {ns : List Int} (hs : ∀ k ∈ namedI cs, k ∈ ns) (m : Int → List Int) : hasB cs ns m = ns.all fun n => decide (scrMap cs n = m n) := by
  unfold hasB
  rw [List.all_eq_true.mpr fun k hk => decide_eq_true (hs k hk), Bool.true_and]
  congr 1
  funext n
  rw [scr_repl h n]
theorem has_own {cs : List PyData} (h : ∀ c ∈ cs, isCommandD c = true) {ns : List Int} (hs : ∀ k ∈ namedI cs, k ∈ ns) : hasB cs ns (scrMap cs) = true := by
  rw [has_yes h hs, List.all_eq_true]
  exact fun n _ => decide_eq_true rfl
theorem has_no {cs : List PyData} {ns : List Int} {m : Int → List Int} {k : Int} (hk : k ∈ namedI cs) (hn : k ∉ ns) : hasB cs ns m = false := by
  unfold hasB
  have : ((namedI cs).all fun k => decide (k ∈ ns)) = false := by
    cases z : (namedI cs).all fun k => decide (k ∈ ns) with
    | false => rfl
    | true => exact absurd (of_decide_eq_true (List.all_eq_true.mp z k hk)) hn
  rw [this]
  rfl
theorem all_perm {p : Int → Bool} {ns zs : List Int} (h : ∀ k, k ∈ ns ↔ k ∈ zs) : ns.all p = zs.all p := by
  cases z : zs.all p with
  | true => exact List.all_eq_true.mpr fun k hk => List.all_eq_true.mp z k ((h k).mp hk)
  | false =>
    cases y : ns.all p with
    | false => rfl
    | true =>
      have : zs.all p = true := List.all_eq_true.mpr fun k hk => List.all_eq_true.mp y k ((h k).mpr hk)
      rw [this] at z
      cases z
theorem less_eff {cs : List PyData} (h : ∀ c ∈ cs, isCommandD c = true) (h1 : 1 ≤ cs.length) {k : Int} (hk : k ∈ namedI cs) (hs : scrMap cs k = [k]) : EffV ((namedI cs).filter fun x => !decide (x = k)) (scrMap cs) := by
  have V := own_eff h h1
  have pe := List.perm_cons_erase hk
  have ef : ((namedI cs).filter fun x => !decide (x = k)) = (namedI cs).erase k := by
    rw [(named_nd cs).erase_eq_filter]
    refine List.filter_congr fun x _ => ?_
    by_cases z : x = k <;> simp [z, bne]
  have ln := pe.length_eq
  rw [List.length_cons] at ln
  have g2 := named_ge2 h h1
  have l60 := named_len cs
  refine ⟨(named_nd cs).filter _, by rw [ef]; omega, by rw [ef]; omega, fun x hx => named_in (List.mem_filter.mp hx).1, ?_⟩
  rw [ef]
  have p1 := (pe.flatMap_right (scrMap cs)).symm.trans ((own_perm h).trans pe)
  rw [List.flatMap_cons, hs] at p1
  exact List.Perm.cons_inv p1
theorem alone_eff {xs : List Int} (nd : xs.Nodup) (h0 : xs ≠ []) (hl : xs.length ≤ 60) (hx : ∀ k ∈ xs, 0 ≤ k ∧ k < 60) : EffV xs fun n => [n] :=
  ⟨nd, List.length_pos_iff.mpr h0, hl, hx, by rw [flatMap_self fun a _ => rfl]⟩
theorem ov_cmds {cs : List PyData} (h : ∀ c ∈ cs, isCommandD c = true) (h2 : cs.length ≤ 200) : Ov (.tuple cs) :=
  ⟨(Pl.tup (k := 1) (w := 300) (W := 61000) (fun c hc => pl_cmd (xs := namedI cs) (fun k hk => named_in hk) (good_of h c hc)) (by omega)).od.mono (by decide) (by decide), by show cs.length ≤ 1000; omega⟩
theorem few60 {xs : List Int} (nd : xs.Nodup) (h : ∀ k ∈ xs, 0 ≤ k ∧ k < 60) : xs.length ≤ 60 := by
  have h1 := nodup_count (below fun k => decide (k ∈ xs)) xs nd fun k => by
    rw [mem_below]
    exact ⟨fun hk => ⟨(h k hk).1, (h k hk).2, decide_eq_true hk⟩, fun hk => of_decide_eq_true hk.2.2⟩
  have h2 := dcount_le (below fun k => decide (k ∈ xs))
  have h3 := below_len fun k => decide (k ∈ xs)
  omega
/-- the items below 60 that are not named -/
def msL (cs : List PyData) : List Int := ((List.range 60).filter fun i => !decide (((i : Nat) : Int) ∈ namedI cs)).map fun (i : Nat) => (i : Int)
theorem ms_nd (cs : List PyData) : (msL cs).Nodup := by
  have h : ((List.range 60).map fun (i : Nat) => (i : Int)).Nodup := by decide
  exact h.sublist ((List.filter_sublist).map _)
theorem ms_mem {cs : List PyData} {k : Int} (h : k ∈ msL cs) : (0 ≤ k ∧ k < 60) ∧ k ∉ namedI cs := by
  obtain ⟨i, hi, rfl⟩ := List.mem_map.mp h
  obtain ⟨h1, h2⟩ := List.mem_filter.mp hi
  have := List.mem_range.mp h1
  refine ⟨by omega, fun z => ?_⟩
  rw [decide_eq_true z] at h2
  cases h2
theorem ms_room {cs : List PyData} {xs : List Int} (nd : xs.Nodup) (h : ∀ k ∈ xs, (0 ≤ k ∧ k < 60) ∧ k ∉ namedI cs) : (namedI cs).length + xs.length ≤ 60 := by
  rw [← List.length_append]
  refine few60 ?_ fun k hk => ?_
  · rw [List.nodup_append]
    exact ⟨named_nd cs, nd, fun a ha b hb z => (h b hb).2 (z ▸ ha)⟩
  · rcases List.mem_append.mp hk with z | z
    · exact named_in z
    · exact (h k z).1
section
variable {P : Program} {w : World} {K : PySem.W.Frag} {mg : PySem.Str → Option Value} {base : Heap} {σ : L2.St} {B H : Hp}
theorem ev_blk {ta tb : TE} {ns : List Int} {cs : List PyData} (h1 : Ev K ta σ B H (.list (ns.map PyData.int))) (h2 : Ev K tb σ B H (.tuple cs)) (nd : ns.Nodup) (hl : ns.length ≤ 60) (hg : ∀ c ∈ cs, GoodC ns c) : Ev K (tCall (BlkLS K) [] E0 (tCons ta (tCons tb tNil))) σ B H (effT ns (scrMap cs)) := fun B1 H1 l Q q =>
  h1 B1 H1 l _ fun v B2 H2 l2 hv => h2 B2 H2 (l.trans l2) _ fun u B3 H3 l3 hu => ⟨B3, v, u, ns, cs, rfl, l3.h, hv.mono l3.b, hu, nd, hl, hg, fun x B4 H4 l4 _ hx => q x B4 H4 ((l2.trans l3).trans l4) hx⟩
/-- a script and effects of its items -/
abbrev SRS (K : PySem.W.Frag) : Sp := Bw K 2000 (fun ds => ∃ (ss : List Int) (n : Int), ds = [.list (ss.map PyData.int), .int n] ∧ ss.Nodup ∧ 2 ≤ ss.length ∧ ss.length ≤ 60 ∧ (∀ k ∈ ss, 0 ≤ k ∧ k < 60) ∧ 1 ≤ n ∧ n ≤ 200) fun _ d => d = .bool true
theorem ok_law_script_right (D : Df K mg "_law_script_right" s__law_script_right ["jug", "items", "most"])
    (C__law_script : Cl P w K mg base CX0 2 "_law_script" ["jug", "items", "most"] (ScrS K)) (C__law_blocks : Cl P w K mg base CX0 1 "_law_blocks" ["items", "script_here"] (BlkLS K)) (C__law_drop : Cl P w K mg base CX0 1 "_law_drop" ["jug", "many"] (PailS K))
    (C_has_effect : Cl P w K mg base CX0 6 "has_effect" ["script", "effect"] (HasS K)) (C__law_changed : Cl P w K mg base CX0 2 "_law_changed" ["jug", "effect_here"] (ChgS K)) (C_is_possible : Cl P w K mg base CX0 5 "is_possible" ["effect"] (PosS K)) (C__law_possible : Cl P w K mg base CX0 1 "_law_possible" ["effect_here"] (PosS K))
    (z_sorted : mg "sorted" = none) (z_set : mg "set" = none) (z_repr : mg "repr" = none) (z_range : mg "range" = none) (z_list : mg "list" = none) (z_dict : mg "dict" = none) :
    ClG P w K mg base 7 "_law_script_right" ["jug", "items", "most"] (SRS K) :=
  ClG.of D sc__law_script_right (fun vs H Q h => bw_len (n := 2) (fun ds h => by obtain ⟨_, _, rfl, _⟩ := h; rfl) vs H Q E0 h) fun f cdv A outer s H vs Q hg hr h => by
    obtain ⟨g, us, B, ds, m0, rfl, e, hw, hm, hq, ⟨ss, n, rfl, snd, s2, s60, sin, n1, n2⟩, q⟩ := h
    obtain ⟨v1, v2, rfl, hv1, hv2⟩ := dq2 hq
    cases hv2
    have hu := hr.units0
    have hu1 := hu_of hr
    have hu64 : (cxOf CX0 P w K mg base N__law_script_right "_law_script_right" (defScope s__law_script_right) f cdv A outer s H E0).nox.A.units + 64 < cLine := hr.units
    have hu65 : (cxOf CX0 P w K mg base N__law_script_right "_law_script_right" (defScope s__law_script_right) f cdv A outer s H E0).nox.A.units + 65 < cLine := by
      have h1 := hr.un
      have h2 : (A.deeper (envOfC "_law_script_right" (defScope s__law_script_right) s.heap.objs.size f cdv)).units + 65 < cLine := by omega
      exact h2
    have hgd : (cxOf CX0 P w K mg base N__law_script_right "_law_script_right" (defScope s__law_script_right) f cdv A outer s H E0).nox.A.guards = some [] := hg
    refine ⟨_, (pss_cons (ps_set (i := 3) sc__law_script_right.nd rfl (.inl rfl) (pe_callC C__law_script (hr.mono (by decide)) (by rfl) pass0 (pa_cons (pv 0) (pa_cons (pv 1) (pa_cons (pv 2) pa_nil))))) (pss_cons (ps_set (i := 4) sc__law_script_right.nd rfl (.inr rfl) (pe_callB (cr_sortedSet rfl) (by rfl) z_sorted (by decide +kernel) (pa_cons (pe_callTy (cr_setL rfl) (by rfl) z_set (by decide +kernel) (pa_cons (pe_op op_addA (pe_lc (own := [("command", 15)]) (tt := tYes) (te := (tOp (rIx K) (tVar 15) (tC (.int 1)))) rfl sc__law_script_right.nd (pi_tup (pv 3)) (blkOk_by (N := N__law_script_right) (sc := defScope s__law_script_right) (by decide +kernel)) (fun _ _ _ _ _ => (pg_name (i := 15) sc__law_script_right.nd rfl (.inl rfl))) (fun _ _ _ _ _ => pts_nil) (fun _ _ _ _ _ => (pe_ix ix_seq (pv 15) pe_int (fun _ _ => rfl)))) (pe_lc (own := [("command", 15)]) (tt := tYes) (te := (tOp (rIx K) (tVar 15) (tC (.int 2)))) rfl sc__law_script_right.nd (pi_tup (pv 3)) (blkOk_by (N := N__law_script_right) (sc := defScope s__law_script_right) (by decide +kernel)) (fun _ _ _ _ _ => (pg_name (i := 15) sc__law_script_right.nd rfl (.inl rfl))) (fun _ _ _ _ _ => pts_nil) (fun _ _ _ _ _ => (pe_ix ix_seq (pv 15) pe_int (fun _ _ => rfl))))) pa_nil)) pa_nil))) (pss_cons (ps_asg (pe_tup (pa_cons (pe_callC C__law_blocks (hr.mono (by decide)) (by rfl) pass0 (pa_cons (pv 4) (pa_cons (pv 3) pa_nil))) (pa_cons (pe_callB (call_repr hgd hu64) (by rfl) z_repr PyProof.Rows.boot_repr (pa_cons (pv 3) pa_nil)) pa_nil))) (pg_tup rfl (pgs_cons (pg_name (i := 5) sc__law_script_right.nd rfl (.inr rfl)) (pgs_cons (pg_name (i := 6) sc__law_script_right.nd rfl (.inl rfl)) pgs_nil)))) (pss_cons (ps_setLc (i := 8) (own := [("item", 7)]) (tt := (tTest (tOp (rIn K true) (tVar 7) (tVar 4)))) (te := (tTup (tCons (tVar 7) (tCons (tTup (tCons (tVar 7) tNil)) tNil)))) rfl sc__law_script_right.nd rfl rfl (sw_true rfl rfl rfl (by decide +kernel)) (pi_range1 (by rfl) z_range (pa_cons pe_int pa_nil)) (blkOk_by (N := N__law_script_right) (sc := defScope s__law_script_right) (by decide +kernel)) (fun _ _ _ _ _ => (pg_name (i := 7) sc__law_script_right.nd rfl (.inl rfl))) (fun _ _ _ _ _ => (pts_one (pt_cmpR op_notIn_seq (pv 7) (pv 4) (by rfl)))) (fun _ _ _ _ _ => (pe_tup (pa_cons (pv 7) (pa_cons (pe_tup (pa_cons (pv 7) pa_nil)) pa_nil))))) (pss_cons (ps_set (i := 9) sc__law_script_right.nd rfl (.inl rfl) (pe_callTy (call_dictP rfl) (by rfl) z_dict (by decide +kernel) (pa_cons (pe_op op_addA (pe_backL (LiI.pe_listItems rfl (pv 5) (by rfl) z_list (by decide +kernel))) (pe_slice sl_any (pv 8) po_none (po_some (pe_callC C__law_drop (hr.mono (by decide)) (by rfl) pass0 (pa_cons (pv 0) (pa_cons pe_int pa_nil)))))) pa_nil))) (pss_cons (ps_if (pt_cmpR (op_neD hu64) (pe_lst (pa_cons (pe_callC C_has_effect (hr.mono (by decide)) (by rfl) pass0 (pa_cons (pv 3) (pa_cons (pv 5) pa_nil))) (pa_cons (pe_callC C_has_effect (hr.mono (by decide)) (by rfl) pass0 (pa_cons (pv 3) (pa_cons (pv 9) pa_nil))) pa_nil))) (pe_lst (pa_cons pe_bl (pa_cons pe_bl pa_nil))) (nomark _)) (pss_one (ps_ret pe_bl)) pss_nil) (pss_cons (ps_for PassesOwn.never rfl (pi_range1 (by rfl) z_range (pa_cons pe_int pa_nil)) (pg_name (i := 10) sc__law_script_right.nd rfl (.inl rfl)) (pss_cons (ps_set (i := 11) sc__law_script_right.nd rfl (.inl rfl) (pe_callC C__law_changed (hr.mono (by decide)) (by rfl) pass0 (pa_cons (pv 0) (pa_cons (pe_ix ix_seq (pe_lst (pa_cons (pv 5) (pa_cons (pv 9) pa_nil))) (pe_op op_mod (pv 10) pe_int) (fun _ _ => rfl)) pa_nil)))) (pss_cons (ps_set (i := 12) sc__law_script_right.nd rfl (.inl rfl) (pe_cmpR (op_eqP hu65) (pe_callC C__law_blocks (hr.mono (by decide)) (by rfl) pass0 (pa_cons (pe_callB (call_sortedDI rfl) (by rfl) z_sorted (by decide +kernel) (pa_cons (pv 11) pa_nil)) (pa_cons (pv 3) pa_nil))) (pv 11) (nomark _))) (pss_one (ps_if ((pw_or (pt_cmpR (op_neA hu) (pe_callB (call_repr hgd hu64) (by rfl) z_repr PyProof.Rows.boot_repr (pa_cons (pe_callC C_has_effect (hr.mono (by decide)) (by rfl) pass0 (pa_cons (pv 3) (pa_cons (pv 11) pa_nil))) pa_nil)) (pe_callB (call_repr hgd hu64) (by rfl) z_repr PyProof.Rows.boot_repr (pa_cons (pv 12) pa_nil)) (nomark _)) (pw_or1 (pt_cmpR (op_neA hu) (pe_callB (call_repr hgd hu64) (by rfl) z_repr PyProof.Rows.boot_repr (pa_cons (pe_callC C_is_possible (hr.mono (by decide)) (by rfl) pass0 (pa_cons (pv 11) pa_nil)) pa_nil)) (pe_callB (call_repr hgd hu64) (by rfl) z_repr PyProof.Rows.boot_repr (pa_cons (pe_callC C__law_possible (hr.mono (by decide)) (by rfl) pass0 (pa_cons (pv 11) pa_nil)) pa_nil)) (nomark _))))).pt (pss_one (ps_ret pe_bl)) pss_nil))))) (pss_cons (ps_for PassesOwn.never rfl (pi_list (pe_lst (pa_cons (pe_slice sl_any (pv 4) po_none (po_some pe_int)) (pa_cons (pe_slice sl_any (pe_lc (own := [("item", 7)]) (tt := (tTest (tOp (rIn K true) (tVar 7) (tVar 4)))) (te := (tVar 7)) rfl sc__law_script_right.nd (pi_range1 (by rfl) z_range (pa_cons pe_int pa_nil)) (blkOk_by (N := N__law_script_right) (sc := defScope s__law_script_right) (by decide +kernel)) (fun _ _ _ _ _ => (pg_name (i := 7) sc__law_script_right.nd rfl (.inl rfl))) (fun _ _ _ _ _ => (pts_one (pt_cmpR op_notIn_seq (pv 7) (pv 4) (by rfl)))) (fun _ _ _ _ _ => (pv 7))) po_none (po_some pe_int)) (pa_cons (pe_slice sl_any (pv 4) (po_some pe_int) po_none) pa_nil))))) (pg_name (i := 13) sc__law_script_right.nd rfl (.inl rfl)) (pss_cons (ps_set (i := 14) sc__law_script_right.nd rfl (.inl rfl) (pe_callTy (call_dictP rfl) (by rfl) z_dict (by decide +kernel) (pa_cons (pe_lc (own := [("item", 7)]) (tt := tYes) (te := (tTup (tCons (tVar 7) (tCons (tTup (tCons (tVar 7) tNil)) tNil)))) rfl sc__law_script_right.nd (pi_list (pv 13)) (blkOk_by (N := N__law_script_right) (sc := defScope s__law_script_right) (by decide +kernel)) (fun _ _ _ _ _ => (pg_name (i := 7) sc__law_script_right.nd rfl (.inl rfl))) (fun _ _ _ _ _ => pts_nil) (fun _ _ _ _ _ => (pe_tup (pa_cons (pv 7) (pa_cons (pe_tup (pa_cons (pv 7) pa_nil)) pa_nil))))) pa_nil))) (pss_one (ps_if ((pw_and (pt_cmpR (op_neA hu) (pv 13) (pe_lst pa_nil) (nomark _)) (pw_and1 (pt_cmpR op_notBl (pe_callC C_has_effect (hr.mono (by decide)) (by rfl) pass0 (pa_cons (pv 3) (pa_cons (pv 14) pa_nil))) pe_bl (nomark _))))).pt (pss_one (ps_ret pe_bl)) pss_nil)))) (pss_cons (ps_for PassesOwn.never rfl (pi_list (pe_lc (own := [("item", 7)]) (tt := (tTest (tOp (rEqD K) (tDGet (tVar 5) (tVar 7)) (tTup (tCons (tVar 7) tNil))))) (te := (tVar 7)) rfl sc__law_script_right.nd (pi_list (pv 4)) (blkOk_by (N := N__law_script_right) (sc := defScope s__law_script_right) (by decide +kernel)) (fun _ _ _ _ _ => (pg_name (i := 7) sc__law_script_right.nd rfl (.inl rfl))) (fun _ _ _ _ _ => (pts_one (pt_cmpR (op_eqD hu64) (pe_dget hu1 (pv 5) (pv 7) (fun _ _ => rfl)) (pe_tup (pa_cons (pv 7) pa_nil)) (nomark _)))) (fun _ _ _ _ _ => (pv 7)))) (pg_name (i := 7) sc__law_script_right.nd rfl (.inl rfl)) (pss_cons (ps_set (i := 14) sc__law_script_right.nd rfl (.inl rfl) (pe_callTy call_dictD (by rfl) z_dict (by decide +kernel) (pa_cons (pv 5) pa_nil))) (pss_cons (ps_expr (pe_dpop1 (pv 14) (pv 7) ⟨rfl, rfl, rfl, rfl⟩)) (pss_one (ps_if (pt_cmpR op_notBl (pe_callC C_has_effect (hr.mono (by decide)) (by rfl) pass0 (pa_cons (pv 3) (pa_cons (pv 14) pa_nil))) pe_bl (nomark _)) (pss_one (ps_ret pe_bl)) pss_nil))))) (pss_one (ps_ret (pe_cmpR (op_eqA hu) (pe_callB (call_repr hgd hu64) (by rfl) z_repr PyProof.Rows.boot_repr (pa_cons (pv 3) pa_nil)) (pv 6) (nomark _))))))))))))), ?_⟩
    -- script_here
    refine w_set (K := K) (g := g) (c := 1100) (m := m0) (R := fun d => ∃ cs, d = .tuple cs ∧ isScriptD (.tuple cs) = true) (Ew.wk (Ew.imp (ew_call (a := 0 + (0 + 0)) (i := 0) rfl (ewa_cons (ew_of fun _ _ l => ev_var (i := 1) rfl (hv1.mono l.b)) (ewa_cons (ew_of fun _ _ l => ev_var (i := 2) rfl (.int n)) ewa_nil)) fun ds r => ?_) fun d r => ?_) (by decide)) (by omega) e hw ?_
    · obtain ⟨_, _, rfl, rfl, _, _, rfl, rfl, rfl⟩ := r
      exact ⟨ss, n, rfl, snd, s2, s60, sin, n1, n2⟩
    · obtain ⟨ds, _, _, _, cs, _, rfl, hsc, _⟩ := r
      exact ⟨cs, rfl, hsc⟩
    rintro d v3 B1 H1 ⟨cs, rfl, hsc⟩ l1 w1 hv3
    obtain ⟨cs', e', cl1, cl2, hcs⟩ := script_of hsc
    cases e'
    have own2 := named_ge2 hcs cl1
    have own60 := named_len cs
    -- own
    have col : ∀ (k : Int) (it : PyData → Int), (∀ c ∈ cs, ∃ ds, c = .tuple ds ∧ atI ds k = some (.int (it c))) → Ev K (tLc (iTup K (tVar 3)) (gName 15) tYes (tOp (rIx K) (tVar 15) (tC (.int k))) [15]) [some (.ref g), some v1, some (.int n), some v3, none, none, none, none, none, none, none, none, none, none, none, none] B1 H1 (.list ((cs.map it).map PyData.int)) := fun k it h => by
      have z := ev_compT (K := K) (σ := [some (.ref g), some v1, some (.int n), some v3, none, none, none, none, none, none, none, none, none, none, none, none]) (B := B1) (H := H1) (tl := tVar 3) (xs := cs) (j := 15) (vs := [15]) (tt := tYes) (te := tOp (rIx K) (tVar 15) (tC (.int k))) (fun _ => true) (fun c => .int (it c)) (ev_var rfl hv3) (by omega) (fun d v B1 H1 l hd hv => et_yes) (fun d v B1 H1 l hd hv _ => by
        obtain ⟨ds, rfl, ha⟩ := h d hd
        exact ev_op (ev_var rfl hv) (ev_c (.int k)) (rv_ixT ha))
      rw [filter_true] at z
      rw [List.map_map]
      exact z
    have own := ev_sortedSetL (K := K) (w := w) (zs := namedI cs) (ks := cs.map c1I ++ cs.map c2I) (by
      have z := ev_op (col 1 c1I fun c hc => by
        obtain ⟨x, i, j, rfl, _⟩ := good_of hcs c hc
        exact ⟨_, rfl, rfl⟩) (col 2 c2I fun c hc => by
        obtain ⟨x, i, j, rfl, _⟩ := good_of hcs c hc
        exact ⟨_, rfl, rfl⟩) (rv_addL (size_ok (by rw [List.length_map, List.length_map, List.length_map, List.length_map]; omega)))
      rw [← List.map_append] at z
      exact z) (by rw [List.length_append, List.length_map, List.length_map]; omega) (below_asc _) (named_two hcs) (by omega)
    refine q_set (K := K) (i := 4) own l1.h fun v4 B2 H2 l2 hv4 => ?_
    clear own col
    have hv32 := hv3.mono l2.b
    have w2 := w1.pure l2
    -- due, kept
    refine q_asg2 (K := K) (i := 5) (j := 6) (ev_tup (ea_cons (ev_blk (ev_var (i := 4) rfl hv4) (ev_var (i := 3) rfl hv32) (named_nd cs) own60 (good_of hcs)) (ea_cons (ev_repr (ev_var (i := 3) rfl hv32) (ov_cmds hcs cl2)) ea_nil)) (size_ok (by show 2 ≤ 100000; decide))) l2.h fun v5 v6 B3 H3 l3 hv5 hv6 => ?_
    have w3 := w2.pure l3
    have hv33 := hv32.mono l3.b
    have hv43 := hv4.mono l3.b
    -- more
    have cm := ev_lcR (K := K) (σ := [some (.ref g), some v1, some (.int n), some v3, some v4, some v5, some v6, none, none, none, none, none, none, none, none, none]) (B := B3) (H := H3) (tn := tC (.int 60)) (n := 60) (j := 7) (vs := [7]) (tt := tTest (tOp (rIn K true) (tVar 7) (tVar 4))) (te := tTup (tCons (tVar 7) (tCons (tTup (tCons (tVar 7) tNil)) tNil)))
      (fun i => !decide (((i : Nat) : Int) ∈ namedI cs)) (fun i => .tuple [.int (i : Nat), .tuple [.int (i : Nat)]]) (ev_c (.int 60)) (by decide) (fun i B1 H1 l hi => et_test (ev_op (ev_var rfl (.int _)) (ev_var (i := 4) rfl (hv43.mono l.b)) rv_notInLI))
      (fun i B1 H1 l hi _ => ev_tup (ea_cons (ev_var rfl (.int _)) (ea_cons (ev_tup (ea_cons (ev_var rfl (.int _)) ea_nil) (size_ok (by show 1 ≤ 100000; decide))) ea_nil)) (size_ok (by show 2 ≤ 100000; decide)))
    rw [show picked (fun i => !decide (((i : Nat) : Int) ∈ namedI cs)) (fun i => .tuple [.int (i : Nat), .tuple [.int (i : Nat)]]) 60 = (msL cs).map fun k => PyData.tuple [.int k, .tuple [.int k]] by unfold picked msL; rw [List.map_map]; rfl] at cm
    refine q_set (K := K) (i := 8) cm l3.h fun v8 B4 H4 l4 hv8 => ?_
    clear cm
    have w4 := w3.pure l4
    have hv54 := hv5.mono l4.b
    -- wide
    refine w_cb1 (K := K) (g := g) (c := 0 + (0 + 1)) (m := m0 + 1100) (R := fun d => ∃ xs : List Int, d = .list (((namedI cs).reverse ++ xs).map fun n => .tuple [.int n, tupI (scrMap cs) n]) ∧ xs.Nodup ∧ ∀ k ∈ xs, (0 ≤ k ∧ k < 60) ∧ k ∉ namedI cs)
      (ew_op (R1 := fun d => d = .list (((namedI cs).map fun n => .tuple [.int n, tupI (scrMap cs) n]).reverse)) (Rb := fun d => ∃ xs : List Int, d = .list (xs.map fun k => .tuple [.int k, .tuple [.int k]]) ∧ xs.Nodup ∧ ∀ k ∈ xs, (0 ≤ k ∧ k < 60) ∧ k ∉ namedI cs) (ew_of fun _ _ l => ev_backL (ev_listItems (ev_var (i := 5) rfl (hv54.mono l.b))))
        (ew_sl (P := fun r => 0 ≤ r ∧ r < 61) (ew_of fun _ _ l => ev_var (i := 8) rfl (hv8.mono l.b)) (ew_pailC (n := 61) rfl (fun _ _ _ => ev_c (.int 61)) (by decide) (by decide)) fun x i h1 h2 => by
          subst h1
          have r := rs_L (K := K) (ds := (msL cs).map fun k => PyData.tuple [.int k, .tuple [.int k]]) (lo := none) (hi := some ((i.toNat : Nat) : Int))
          rw [cut_to, ← List.map_take, show ((i.toNat : Nat) : Int) = i by omega] at r
          exact ⟨_, r, (msL cs).take i.toNat, rfl, (ms_nd cs).sublist (List.take_sublist _ _), fun k hk => ms_mem (List.mem_of_mem_take hk)⟩) fun x y h1 h2 => by
        subst h1
        obtain ⟨xs, rfl, x1, x2⟩ := h2
        have room := ms_room x1 x2
        refine ⟨_, rv_addL (size_ok (by rw [List.length_reverse, List.length_map, List.length_map]; omega)), xs, ?_, x1, x2⟩
        rw [List.map_append, List.map_reverse]
        congr 2
        refine List.map_congr_left fun k hk => ?_
        show PyData.tuple [.int k, .tuple [.int k]] = .tuple [.int k, .tuple ((scrMap cs k).map PyData.int)]
        rw [un_self hcs (x2 k hk).2]
        rfl) (by omega) l4.h w4 ?_
    rintro d v B5 H5 ⟨xs, rfl, x1, x2⟩ l5 w5 hv
    have V9 := wide_eff hcs cl1 x1 x2 (ms_room x1 x2)
    have V5 := own_eff hcs cl1
    refine q_asgR (od_pairs (K := K) (ns := (namedI cs).reverse ++ xs) (F := tupI (scrMap cs)) (ev_val hv) l5.h V9.nd fun p9 B6' H6 l6' hp9 x9 => ?_)
    obtain ⟨B6, l6, hv9, _⟩ := x9.given l6' hp9
    clear x9 l6' hv
    have w6 := w5.pure l6
    have hv36 := (((hv33.mono l4.b).mono l5.b)).mono l6.b
    have hv46 := ((hv43.mono l4.b).mono l5.b).mono l6.b
    have hv56 := (hv54.mono l5.b).mono l6.b
    have hv66 := ((hv6.mono l4.b).mono l5.b).mono l6.b
    have sub9 : ∀ k ∈ namedI cs, k ∈ (namedI cs).reverse ++ xs := fun k hk => List.mem_append_left _ (List.mem_reverse.mpr hk)
    generalize hns9 : (namedI cs).reverse ++ xs = ns9 at V9 hv9 sub9
    -- both are effects of the script
    have t1 : EvT _ [some (.ref g), some v1, some (.int n), some v3, some v4, some v5, some v6, none, some v8, some (.ref p9), none, none, none, none, none, none] B6 H6 false := et_test (K := K) (by
      have z := ev_op (K := K) (ev_lst (ea_cons (ev_has (K := K) (σ := [some (.ref g), some v1, some (.int n), some v3, some v4, some v5, some v6, none, some v8, some (.ref p9), none, none, none, none, none, none]) (B := B6) (H := H6) (i := 3) (j := 5) rfl hv36 hsc rfl hv56 V5) (ea_cons (ev_has (K := K) (i := 3) (j := 9) rfl hv36 hsc rfl hv9 V9) ea_nil)) (size_ok (by show 2 ≤ 100000; decide))) (ev_lst (ea_cons (ev_b (k := true)) (ea_cons (ev_b (k := true)) ea_nil)) (size_ok (by show 2 ≤ 100000; decide))) (rv_neLB (as := [_, _]) (bs := [true, true]))
      rw [has_own hcs (fun k hk => hk), has_own hcs sub9] at z
      exact z)
    refine q_when (k := false) t1 l6.h (fun h => by cases h) fun _ B7 H7 l7 => ?_
    clear t1
    have w7 := w6.pure l7
    replace hv36 := hv36.mono l7.b
    replace hv46 := hv46.mono l7.b
    replace hv56 := hv56.mono l7.b
    replace hv66 := hv66.mono l7.b
    replace hv9 := hv9.mono l7.b
    -- six changed ones
    refine q_forR1 (K := K) [g] (n := 6) (ea_cons (ev_c (.int 6)) ea_nil) (by decide) l7.h (fun i σ' B' H' => ∃ o10 o11 o12, σ' = [some (.ref g), some v1, some (.int n), some v3, some v4, some v5, some v6, none, some v8, some (.ref p9), o10, o11, o12, none, none, none] ∧ Wl g (m0 + 1101 + 100 * i) B' H')
      (fun B' H' l => ⟨none, none, none, rfl, (w7.pure l).mono (by omega)⟩) ?_ ?_
    · rintro i σ' Ba Ha N la hi ⟨o10, o11, o12, rfl, wa⟩ hN
      have h3a := hv36.mono la.b
      have h5a := hv56.mono la.b
      have h9a := hv9.mono la.b
      refine w_set (K := K) (g := g) (c := 100) (m := m0 + 1101 + 100 * i) (R := fun d => ∃ ns m', d = effT ns m' ∧ EffV ns m' ∧ ∀ k ∈ namedI cs, k ∈ ns) (Ew.wk (Ew.imp (ew_call (i := 0) rfl (ewa_cons (ew_pickR (n := 2) (P := fun r => 0 ≤ r ∧ r < 2) (R := fun d => ∃ ns, d = effT ns (scrMap cs) ∧ EffV ns (scrMap cs) ∧ ∀ k ∈ namedI cs, k ∈ ns) (ew_lstR (ewa_consR ((ew_of fun _ _ l => ev_var (i := 5) rfl (h5a.mono l.b)).imp fun d h => ⟨namedI cs, h, V5, fun k hk => hk⟩) (ewa_consR ((ew_of fun _ _ l => ev_var (i := 9) rfl (h9a.mono l.b)).imp fun d h => ⟨ns9, h, V9, sub9⟩) ewa_nilR)) (by decide))
          (wi_ev (k := ((i : Nat) : Int) % 2) (fun _ _ _ => ev_op (ev_var (i := 10) rfl (.int _)) (ev_c (.int 2)) (rv_int (by show (0 : Int) < 2; decide))) (by omega)) fun i h => h) ewa_nil) fun ds r => ?_) fun d r => ?_) (by decide)) (by omega) la.h wa ?_
      · obtain ⟨_, _, rfl, ⟨ns, rfl, V, _⟩, rfl⟩ := r
        exact ⟨ns, scrMap cs, rfl, V⟩
      · obtain ⟨_, ⟨_, _, rfl, ⟨ns, rfl, V, hs⟩, rfl⟩, ns', m1, m2, e1, rfl, V'⟩ := r
        have := effM_keys (List.cons.inj e1).1
        subst this
        exact ⟨ns, m2, rfl, V', hs⟩
      rintro d v11 Bb Hb ⟨ns, mm, rfl, V, hs⟩ lb wb hv11
      have h3b := h3a.mono lb.b
      have zas := below_asc fun k => decide (k ∈ ns)
      have zmem : ∀ k, k ∈ ns ↔ k ∈ below fun k => decide (k ∈ ns) := fun k => by
        rw [mem_below]
        exact ⟨fun h => ⟨(V.i60 k h).1, (V.i60 k h).2, decide_eq_true h⟩, fun h => of_decide_eq_true h.2.2⟩
      have znd := below_nodup fun k => decide (k ∈ ns)
      have zl := below_len fun k => decide (k ∈ ns)
      generalize hzs : (below fun k => decide (k ∈ ns)) = zs at zas zmem znd zl
      have zln : zs.length = ns.length := ((nodup_count ns zs znd fun k => (zmem k).symm).trans (nodup_count ns ns V.nd fun k => Iff.rfl).symm)
      have hgz : ∀ c ∈ cs, GoodC zs c := fun c hc => by
        obtain ⟨x, i, j, rfl, hw, h1, h2, hne⟩ := good_of hcs c hc
        exact ⟨x, i, j, rfl, hw, (zmem i).mp (hs i h1), (zmem j).mp (hs j h2), hne⟩
      -- good
      have gd := ev_op (K := K) (σ := [some (.ref g), some v1, some (.int n), some v3, some v4, some v5, some v6, none, some v8, some (.ref p9), some (.int (i : Nat)), some v11, o12, none, none, none]) (B := Bb) (H := Hb) (ev_blk (ev_cb (ea_cons (ev_var (i := 11) rfl hv11) ea_nil) (rc_sortedDIg V.nd zas zmem (by have := V.len; omega))) (ev_var (i := 3) rfl h3b) znd zl hgz) (ev_var (i := 11) rfl hv11) (rv_P (K := K) (neg := false) (m := scrMap cs) (m' := mm) zln fun k hk => (zmem k).mpr hk)
      refine q_set (K := K) (i := 12) gd lb.h fun v12 Bc Hc lc hv12 => ?_
      clear gd
      have gb : (false ^^ sameM zs (scrMap cs) mm) = hasB cs ns mm := by
        rw [has_yes hcs hs, Bool.false_xor]
        exact (all_perm zmem).symm
      rw [gb] at hv12
      refine s_when (k := false || false) (et_or (et_same (K := K) (ev_repr (ev_has (i := 3) (j := 11) rfl (h3b.mono lc.b) hsc rfl (hv11.mono lc.b) V) (ov_bool _)) (ev_repr (ev_var (i := 12) rfl hv12) (ov_bool _))) fun _ => et_same (K := K) (ev_repr (ev_pos (i := 11) rfl (hv11.mono lc.b) V) (ov_bool _)) (ev_repr (ev_pos (i := 11) rfl (hv11.mono lc.b) V) (ov_bool _))) lc.h (fun h => by cases h) fun _ Bd Hd ld => ?_
      exact hN _ Bd Hd (lb.trans (lc.trans ld).any) ⟨_, _, _, rfl, ((wb.pure lc).pure ld).mono (by omega)⟩
    rintro σ' B8 H8 l8 ⟨o10, o11, o12, rfl, w8⟩
    replace hv36 := hv36.mono l8.b
    replace hv46 := hv46.mono l8.b
    replace hv56 := hv56.mono l8.b
    replace hv66 := hv66.mono l8.b
    -- effects that lack named items
    have cm := ev_lcR (K := K) (σ := [some (.ref g), some v1, some (.int n), some v3, some v4, some v5, some v6, none, some v8, some (.ref p9), o10, o11, o12, none, none, none]) (B := B8) (H := H8) (tn := tC (.int 60)) (n := 60) (j := 7) (vs := [7]) (tt := tTest (tOp (rIn K true) (tVar 7) (tVar 4))) (te := tVar 7)
      (fun i => !decide (((i : Nat) : Int) ∈ namedI cs)) (fun i => .int (i : Nat)) (ev_c (.int 60)) (by decide) (fun i B1 H1 l hi => et_test (ev_op (ev_var rfl (.int _)) (ev_var (i := 4) rfl (hv46.mono l.b)) rv_notInLI)) (fun i B1 H1 l hi _ => ev_var rfl (.int _))
    rw [show picked (fun i => !decide (((i : Nat) : Int) ∈ namedI cs)) (fun i => .int (i : Nat)) 60 = (msL cs).map PyData.int by unfold picked msL; rw [List.map_map]; rfl] at cm
    have sa := ev_sl (K := K) (σ := [some (.ref g), some v1, some (.int n), some v3, some v4, some v5, some v6, none, some v8, some (.ref p9), o10, o11, o12, none, none, none]) (B := B8) (H := H8) (ev_var (i := 4) rfl hv46) eo_none (eo_some (K := K) (ev_c (.int 1))) rs_L
    have sb := ev_sl (K := K) cm eo_none (eo_some (K := K) (ev_c (.int 1))) rs_L
    have sc := ev_sl (K := K) (σ := [some (.ref g), some v1, some (.int n), some v3, some v4, some v5, some v6, none, some v8, some (.ref p9), o10, o11, o12, none, none, none]) (B := B8) (H := H8) (ev_var (i := 4) rfl hv46) (eo_some (K := K) (ev_c (.int 1))) eo_none rs_L
    rw [cut_mapI] at sa sb sc
    have src : Ev K _ _ B8 H8 (.list ([cutG (namedI cs) none (some 1), cutG (msL cs) none (some 1), cutG (namedI cs) (some 1) none].map lstB)) := ev_lst (ea_cons sa (ea_cons sb (ea_cons sc ea_nil))) (size_ok (by show 3 ≤ 100000; decide))
    clear cm sa sb sc
    have few : ∀ l ∈ [cutG (namedI cs) none (some 1), cutG (msL cs) none (some 1), cutG (namedI cs) (some 1) none], l.Nodup ∧ (∀ k ∈ l, 0 ≤ k ∧ k < 60) ∧ ∃ k ∈ namedI cs, k ∉ l := by
      obtain ⟨a, b, rest, hab⟩ := two_of own2
      have nd := named_nd cs
      rw [hab] at nd
      have nab : a ∉ b :: rest := (List.nodup_cons.mp nd).1
      have cut1 : ∀ l : List Int, cutG l none (some 1) = l.take 1 := fun l => cut_to l 1
      have cut2 : cutG (a :: b :: rest) (some 1) none = b :: rest := by
        unfold cutG
        rw [HT.sIx_none]
        have e1 : HT.sIx (a :: b :: rest).length 0 (some 1) = 1 := by
          have := HT.sIx_nat (n := (a :: b :: rest).length) (d := 0) (k := 1)
          rw [show ((1 : Nat) : Int) = 1 by rfl] at this
          rw [this, List.length_cons]
          omega
        rw [e1]
        show ((b :: rest).take _) = _
        exact List.take_of_length_le (by simp)
      intro l hl
      simp only [List.mem_cons, List.not_mem_nil, or_false] at hl
      rcases hl with rfl | rfl | rfl
      · rw [cut1, hab]
        refine ⟨by simp, fun k hk => ?_, b, by simp, fun z => ?_⟩
        · rw [List.mem_singleton.mp (show k ∈ [a] from hk)]
          exact named_in (by rw [hab]; simp)
        · rw [List.mem_singleton.mp (show b ∈ [a] from z)] at nab
          simp at nab
      · rw [cut1]
        refine ⟨(ms_nd cs).sublist (List.take_sublist _ _), fun k hk => (ms_mem (List.mem_of_mem_take hk)).1, a, by rw [hab]; simp, fun z => (ms_mem (List.mem_of_mem_take z)).2 (by rw [hab]; simp)⟩
      · rw [hab, cut2]
        refine ⟨(List.nodup_cons.mp nd).2, fun k hk => named_in (by rw [hab]; exact List.mem_cons_of_mem _ hk), a, by simp, nab⟩
    generalize [cutG (namedI cs) none (some 1), cutG (msL cs) none (some 1), cutG (namedI cs) (some 1) none] = ls at few src
    refine q_forM (K := K) [] src l8.h (fun i σ' B' H' => ∃ o7 o13 o14, σ' = [some (.ref g), some v1, some (.int n), some v3, some v4, some v5, some v6, o7, some v8, some (.ref p9), o10, o11, o12, o13, o14, none]) (fun B' H' l => ⟨none, none, none, rfl⟩) ?_ ?_
    · rintro i d v σ' Ba Ha N la hd hv ⟨o7, o13, o14, rfl⟩ hN
      rw [List.getElem?_map] at hd
      obtain ⟨less, hless, rfl⟩ := Option.map_eq_some_iff.mp hd
      obtain ⟨nd, h60, k, hk1, hk2⟩ := few less (List.mem_of_getElem? hless)
      have l60 := few60 nd h60
      have h3a := hv36.mono la.b
      have cp := ev_compL (K := K) (σ := [some (.ref g), some v1, some (.int n), some v3, some v4, some v5, some v6, o7, some v8, some (.ref p9), o10, o11, o12, some v, o14, none]) (B := Ba) (H := Ha) (tl := tVar 13) (xs := less.map PyData.int) (j := 7) (vs := [7]) (tt := tYes) (te := tTup (tCons (tVar 7) (tCons (tTup (tCons (tVar 7) tNil)) tNil))) (fun _ => true) (fun d => .tuple [d, .tuple [d]]) (ev_var rfl hv) (by rw [List.length_map]; omega) (fun d v B1 H1 l hd hv => et_yes)
        (fun d v B1 H1 l hd hv _ => ev_tup (ea_cons (ev_var rfl hv) (ea_cons (ev_tup (ea_cons (ev_var rfl hv) ea_nil) (size_ok (by show 1 ≤ 100000; decide))) ea_nil)) (size_ok (by show 2 ≤ 100000; decide)))
      rw [filter_true, List.map_map] at cp
      refine q_asgR (od_pairs (K := K) (ns := less) (F := tupI fun n => [n]) cp la.h nd fun p Bb' Hb lb' hp xp => ?_)
      obtain ⟨Bb, lb, hpd, _⟩ := xp.given lb' hp
      clear xp lb' cp
      have ne : EvT (tTest (tOp (rNeA K) (tVar 13) (tLst tNil))) [some (.ref g), some v1, some (.int n), some v3, some v4, some v5, some v6, o7, some v8, some (.ref p9), o10, o11, o12, some v, some (.ref p), none] Bb Hb (!(less.map PyData.int).isEmpty) := et_test (ev_op (ev_var (i := 13) rfl (hv.mono lb.b)) (ev_lst ea_nil (Nat.zero_le _)) rv_neL0)
      refine s_when (k := (!(less.map PyData.int).isEmpty) && false) (et_and ne fun h => ?_) lb.h (fun h => by rw [Bool.and_false] at h; cases h) fun _ Bc Hc lc => ?_
      · have V : EffV less fun n => [n] := alone_eff nd (fun z => by rw [z] at h; cases h) l60 h60
        have z := ev_op (K := K) (ev_has (K := K) (σ := [some (.ref g), some v1, some (.int n), some v3, some v4, some v5, some v6, o7, some v8, some (.ref p9), o10, o11, o12, some v, some (.ref p), none]) (B := Bb) (H := Hb) (i := 3) (j := 14) rfl (h3a.mono lb.b) hsc rfl hpd V) (ev_b (k := false)) rv_notBl
        rw [has_no hk1 hk2] at z
        exact et_test z
      · exact hN _ Bc Hc (lb.trans lc).any ⟨_, _, _, rfl⟩
    rintro σ' B9 H9 l9 ⟨o7, o13, o14, rfl⟩
    clear src few
    have w9 := w8.pureM l9 (by simp)
    replace hv36 := hv36.mono l9.b
    replace hv46 := hv46.mono l9.b
    replace hv56 := hv56.mono l9.b
    replace hv66 := hv66.mono l9.b
    -- an effect that lacks a named item that ends in its own block
    have sg := ev_compI (K := K) (σ := [some (.ref g), some v1, some (.int n), some v3, some v4, some v5, some v6, o7, some v8, some (.ref p9), o10, o11, o12, o13, o14, none]) (B := B9) (H := H9) (tl := tVar 4) (ns := namedI cs) (j := 7) (vs := [7]) (tt := tTest (tOp (rEqD K) (tDGet (tVar 5) (tVar 7)) (tTup (tCons (tVar 7) tNil)))) (fun k => decide (scrMap cs k = [k])) (ev_var (i := 4) rfl hv46) (by omega) (fun k hk B' H' l => by
      have z := ev_dget (K := K) (F := tupI (scrMap cs)) (ev_var (K := K) (i := 5) (σ := [some (.ref g), some v1, some (.int n), some v3, some v4, some v5, some v6, some (.int k), some v8, some (.ref p9), o10, o11, o12, o13, o14, none]) (B := B') (H := H') rfl (hv56.mono l.b)) (ev_var (i := 7) rfl (.int k)) hk
      exact et_test (ev_op z (ev_tup (ea_cons (ev_var (i := 7) rfl (.int k)) ea_nil) (size_ok (by show 1 ≤ 100000; decide))) (rv_eqTD (bs := [k]))))
    refine q_forM (K := K) [] sg l9.h (fun i σ' B' H' => ∃ o7 o14, σ' = [some (.ref g), some v1, some (.int n), some v3, some v4, some v5, some v6, o7, some v8, some (.ref p9), o10, o11, o12, o13, o14, none]) (fun B' H' l => ⟨o7, o14, rfl⟩) ?_ ?_
    · rintro i d v σ' Ba Ha N la hd hv ⟨o7, o14, rfl⟩ hN
      rw [List.getElem?_map] at hd
      obtain ⟨k, hk, rfl⟩ := Option.map_eq_some_iff.mp hd
      obtain ⟨hk1, hk2⟩ := List.mem_filter.mp (List.mem_of_getElem? hk)
      cases hv
      have h3a := hv36.mono la.b
      refine q_asgR (od_copy (K := K) (σ := [some (.ref g), some v1, some (.int n), some v3, some v4, some v5, some v6, some (.int k), some v8, some (.ref p9), o10, o11, o12, o13, o14, none]) (ns := namedI cs) (F := tupI (scrMap cs)) (te := tVar 5) (ev_var (i := 5) rfl (hv56.mono la.b)) la.h (named_nd cs) fun p Bb Hb lb hp xp => ?_)
      refine q_dpop (K := K) (n := k) xp lb.h hk1 rfl rfl fun Bc' Hc lc' xc => ?_
      have lbc : Le [] Ba Ha Bc' Hc := (lb.any.trans lc').local hp
      obtain ⟨Bc, lc, hpd, _⟩ := xc.given lbc hp
      have V := less_eff hcs cl1 hk1 (of_decide_eq_true hk2)
      refine s_when (k := false) (et_test (by
        have z := ev_op (K := K) (ev_has (K := K) (σ := [some (.ref g), some v1, some (.int n), some v3, some v4, some v5, some v6, some (.int k), some v8, some (.ref p9), o10, o11, o12, o13, some (.ref p), none]) (B := Bc) (H := Hc) (i := 3) (j := 14) rfl (h3a.mono lc.b) hsc rfl hpd V) (ev_b (k := false)) rv_notBl
        rw [has_no hk1 (fun z => by have := (List.mem_filter.mp z).2; simp at this)] at z
        exact z)) lc.h (fun h => by cases h) fun _ Bd Hd ld => ?_
      exact hN _ Bd Hd (lc.trans ld).any ⟨_, _, rfl⟩
    rintro σ' Ba Ha la ⟨o7, o14, rfl⟩
    have rp := ev_op (K := K) (ev_repr (ev_var (K := K) (i := 3) (σ := [some (.ref g), some v1, some (.int n), some v3, some v4, some v5, some v6, o7, some v8, some (.ref p9), o10, o11, o12, o13, o14, none]) (B := Ba) (H := Ha) rfl (hv36.mono la.b)) (ov_cmds hcs cl2)) (ev_var (i := 6) rfl (hv66.mono la.b)) rv_eqS
    rw [decide_eq_true rfl] at rp
    refine s_ret rp la.h fun v Bb Hb lb hv => ?_
    refine q (.bool true) rfl v Bb Hb ?_ (((w9.pureM la (by simp)).pure lb).mono (by omega)) hv
    exact ((((((((((l1.trans l2.any).trans l3.any).trans l4.any).trans l5).trans l6.any).trans l7.any).trans l8).trans l9.any).trans la.any).trans lb.any)
end
end K34

set_option maxRecDepth 100000
set_option maxHeartbeats 2000000
namespace MA
open PySem PySem.Spec PyProof.Rows L2
section
variable {K : PySem.W.Frag} {g : Addr} {σ : L2.St} {B H : Hp} {te : TE} {R : PyData → Prop} {c : Nat} {ns : List Int}
theorem all_snoc {S : PyData → Prop} {n : Nat} {ds : List PyData} {d : PyData} (h : AllR S n ds) (hd : S d) : AllR S (n + 1) (ds ++ [d]) := ⟨by rw [List.length_append, h.1]; rfl, fun x hx => by
  rcases List.mem_append.mp hx with z | z
  · exact h.2 x z
  · rw [List.mem_singleton.mp z]; exact hd⟩
/-- [.. for k in range(n)], each drawn -/
theorem ew_lcRg {ta : TA} {n j : Nat} {vs : List Nat} (ha : ∀ B1 H1, Le [g] B H B1 H1 → EvA K ta σ B1 H1 [.int (n : Nat)]) (hn : n ≤ 1000) (he : ∀ (i : Nat) B1 H1, i < n → Le [g] B H B1 H1 → Ew K g c te ((wipe σ vs).set j (some (.int (i : Nat)))) B1 H1 R)
    (hw : ∀ y, wipe ((wipe σ vs).set j (some y)) vs = wipe σ vs := by intro _; rfl) : Ew K g (c * n) (tLc (iRng1 ta) (gName j) tYes te vs) σ B H (RL R n) := fun m B0 H0 hm l0 w0 Q q => by
  refine ha B0 H0 l0 B0 H0 (Le.refl l0.h) _ fun us B1 H1 l1 hus => ?_
  obtain ⟨u, rfl, h1⟩ := dq1 hus
  cases h1
  refine ⟨(n : Nat), rfl, by omega, by omega, fun D hD => ?_⟩
  rw [show ((n : Nat) : Int).toNat = n by omega]
  have w1 := w0.pure l1
  have hDb := none_of l1.h hD
  have hDg := w1.ne hD
  have hsl : 1000 < sizeLine := by rw [sizeLine_eq]; decide
  refine lc_range (lo := 0) (n := n) (fun t Hi => ∃ (Bi : Hp) (ys : List V) (ds : List PyData), Le [D, g] B1 H1 Bi Hi ∧ Wl g (m + c * t) Bi Hi ∧ Bi D = none ∧ Hi D = some (.lst ys) ∧ DqAll K Bi ys ds ∧ AllR R t ds) ⟨B1, [], [], Le.made l1.h hD, w1.made hD, hDb, upd_same, .nil, rfl, by simp⟩ (fun t Hi ht p => ⟨hw _, yes_i ?_⟩) fun Hi p => ?_
  · obtain ⟨Bi, ys, ds, le, wi, bi, hi, hq, hr⟩ := p
    rw [if_pos rfl, Int.zero_add]
    have hc : c * t + c ≤ c * n := by rw [← Nat.mul_succ]; exact Nat.mul_le_mul_left c ht
    have lD : Le [g] B H Bi Hi := (l0.trans l1.any).trans (le.local hD)
    refine he t Bi Hi ht lD (m + c * t) Bi Hi (by omega) (Le.refl le.h) wi _ fun d v B2 H2 r l2 w2 hv => ?_
    have d2 := l2.k D _ (by simp [hDg]) hi
    have b2 := l2.own hi bi
    have yl := hq.length
    have dl := hr.1
    refine ⟨_, d2, by omega, B2, ys ++ [v], ds ++ [d], ?_, ?_, b2, upd_same, (hq.mono l2.b).append (.cons hv .nil), all_snoc hr r⟩
    · exact (le.trans (l2.wk (by simp))).trans (Le.put l2.h b2 (by simp))
    · exact (w2.put hDg).mono (by rw [Nat.mul_succ]; omega)
  · obtain ⟨Bi, ys, ds, le, wi, bi, hi, hq, hr⟩ := p
    have lg := (le.give hD bi hi).local hD
    exact q (.list ds) (.ref D) _ Hi ⟨ds, rfl, hr⟩ (l1.any.trans lg) (wi.give hDg) (.lst upd_same (hq.mono (Evl.Ex.new bi)))
theorem ewt_notB {k : Bool} (h : Ew K g c te σ B H (· = .bool k)) : EwT g c (tNot (tB te)) σ B H (· = !k) := fun m B1 H1 hm l w Q q => h m B1 H1 hm l w _ fun d v B2 H2 r l2 w2 hv => by
  subst r
  cases hv
  exact ⟨k, rfl, q (!k) B2 H2 rfl l2 w2⟩
theorem s_whenD {S : Bool → Prop} {t : TT} {m : Nat} {D : Ends} {tu : TS} (h : EwT g c t σ B H S) (hm : m + c ≤ 1000000) (e : Ex B H) (w : Wl g m B H) (h1 : ∀ B' H', S true → Le [g] B H B' H' → Wl g (m + c) B' H' → tu D σ H') (h2 : ∀ B' H', S false → Le [g] B H B' H' → Wl g (m + c) B' H' → D.nx σ H') : tIfS t tu tNext D σ H :=
  h m B H hm (Le.refl e) w _ fun k B' H' s l w' => by
    cases k with
    | true => exact h1 B' H' s l w'
    | false => exact h2 B' H' s l w'
/-! ## {k: .., ..} -/
def EvP (K : PySem.W.Frag) (trs : List (TE × TE)) (σ : L2.St) (B H : Hp) (ns : List Int) (ds : List PyData) : Prop := ∀ B1 H1, Le [] B H B1 H1 → ∀ Q : List (V × V) → Hp → Prop, (∀ ys B2 H2, Le [] B1 H1 B2 H2 → DqAll K B2 ys ds → Q ((ns.map V.int).zip ys) H2) → tPairs trs σ H1 Q
theorem ep_nil : EvP K [] σ B H [] [] := fun B1 H1 l Q q => q [] B1 H1 (Le.refl l.h) .nil
theorem ep_cons {k : Int} {d : PyData} {tv : TE} {trs : List (TE × TE)} {ds : List PyData} (hv : Ev K tv σ B H d) (hr : EvP K trs σ B H ns ds) : EvP K ((tC (.int k), tv) :: trs) σ B H (k :: ns) (d :: ds) := fun B1 H1 l Q q =>
  hv B1 H1 l _ fun v B2 H2 l2 hv => hr B2 H2 (l.trans l2) _ fun ys B3 H3 l3 hs => q (v :: ys) B3 H3 (l2.trans l3) (.cons (hv.mono l3.b) hs)
theorem ev_disp {trs : List (TE × TE)} {F : Int → PyData} (h : ∀ B1 H1, EvP K trs σ B1 H1 ns (ns.map F)) (nd : ns.Nodup) (hl : ns.length ≤ 15) : Ev K (tDisp trs) σ B H (effM ns F) := fun B1 H1 l Q q => by
  intro p hp
  have lm : Le [p] B1 H1 B1 (upd H1 p (.dK [])) := Le.made l.h hp
  refine h B1 (upd H1 p (.dK [])) B1 _ (Le.refl lm.h) _ fun ys B2 H2 l2 hs => ?_
  have yl : ns.length = ys.length := by have := hs.length; rw [List.length_map] at this; exact this.symm
  have hp2 := l2.k p _ (by simp) upd_same
  have bp2 := l2.own upd_same (none_of l.h hp)
  refine ⟨hp2, kvsOf ns ys, ?_, ?_, ?_⟩
  · have : ∀ {ns : List Int} {ys : List V}, ns.length = ys.length → (ns.map V.int).zip ys = (kvsOf ns ys).map fun kv => (kV kv.1, kv.2) := by
      intro ns
      induction ns with
      | nil => intro ys _; rfl
      | cons n ns ih =>
        intro ys h
        cases ys with
        | nil => cases h
        | cons y ys =>
          show (V.int n, y) :: (ns.map V.int).zip ys = _
          rw [ih (by simpa using h)]
          rfl
    exact this yl
  · have : ∀ {ns : List Int} {ys : List V}, ns.length = ys.length → (kvsOf ns ys).length = ns.length := by
      intro ns ys h
      unfold kvsOf
      rw [List.length_map, List.length_zip]
      omega
    rw [this yl]
    exact hl
  · rw [merge_new nd (fun n hn => rfl) yl, List.nil_append]
    have x : OD K p ns F B2 (upd H2 p (.dK (kvsOf ns ys))) := ⟨bp2, nd, ys, yl, upd_same, hs⟩
    obtain ⟨o, ho, hd⟩ := x.give
    have lz : Le [p] B1 H1 B2 (upd H2 p (.dK (kvsOf ns ys))) := (lm.trans l2.any).trans (Le.put l2.h bp2 (by simp))
    exact q (.ref p) _ _ ((lz.give hp x.own ho).local hp) hd
end
end MA

set_option maxRecDepth 100000
set_option maxHeartbeats 16000000
namespace K34
open PySem PySem.Spec PyProof.Rows L2 MA
def lawS (K : PySem.W.Frag) : Sp := fun vs H Q _ => ∃ a ns, vs = [.ref a] ∧ (ns : List Int).length ≤ 1000 ∧ SqL K H a (ns.map V.int) ∧ ∀ H', Q (.bl true) H'
def csW : List PyData := [.tuple [.str "behind", .int 0, .int 1], .tuple [.str "behind", .int 0, .int 2]]
theorem csW_ok : isScriptD (.tuple csW) = true := by decide +kernel
def mW (k : Int) : List Int := if k = 2 then [2, 0] else if k = 1 then [1] else []
theorem mW_two : EffV [0, 2] mW := ⟨by decide, by decide, by decide, by decide, by decide⟩
theorem mW_three : EffV [0, 1, 2] mW := ⟨by decide, by decide, by decide, by decide, by decide⟩
theorem hasW_two : hasB csW [0, 2] mW = false := by decide +kernel
theorem hasW_three : hasB csW [0, 1, 2] mW = true := by decide +kernel
def all60 : List Int := (List.range 60).map fun (i : Nat) => (i : Int)
def mT (k : Int) : List Int := [(k + 1) % 60]
theorem all60_eff : EffV all60 fun n => [n] := ⟨by decide +kernel, by decide +kernel, by decide +kernel, by decide +kernel, by rw [flatMap_self fun a _ => rfl]⟩
theorem all60_pos : possB all60 (fun n => [n]) = true := by decide +kernel
theorem mT_perm : (all60.flatMap mT).Perm all60 := by decide +kernel
theorem mT_eff : EffV all60 mT := ⟨all60_eff.nd, all60_eff.one, all60_eff.len, all60_eff.i60, mT_perm⟩
theorem mT_pos : possB all60 mT = false := by decide +kernel
theorem ov_effV {ns : List Int} {m : Int → List Int} (h : EffV ns m) : Ov (effT ns m) :=
  ov_eff (k := 1) (w := 4300) (fun n hn => ⟨h.i60 n hn, Pl.tup (k := 0) (w := 70) (fun d hd => by
    obtain ⟨k, hk, rfl⟩ := List.mem_map.mp hd
    have := h.i60 k (h.perm.mem_iff.mp (List.mem_flatMap.mpr ⟨n, hn, hk⟩))
    exact pl_int this.1 this.2) (by rw [List.length_map]; have := blk_len h.perm hn; have := h.len; omega)⟩) h.len (by decide) (by decide)
section
variable {P : Program} {w : World} {K : PySem.W.Frag} {mg : PySem.Str → Option Value} {base : Heap}
theorem ev_hasT {σ : L2.St} {B H : Hp} {i : Nat} {te : TE} {v0 : V} {cs : List PyData} {ns : List Int} {m : Int → List Int} (hi : σ[i]? = some (some v0)) (h0 : Dq K B v0 (.tuple cs)) (hsc : isScriptD (.tuple cs) = true) (h1 : Ev K te σ B H (effT ns m)) (V0 : EffV ns m) : Ev K (tCall (HasS K) [] E0 (tCons (tVar i) (tCons te tNil))) σ B H (.bool (hasB cs ns m)) := fun B1 H1 l Q q =>
  ⟨v0, hi, h1 B1 H1 l _ fun v B2 H2 l2 hv => ⟨B2, v0, v, cs, ns, m, rfl, l2.h, (h0.mono l.b).mono l2.b, hsc, hv, V0, fun B' H' l' => q _ B' H' (l2.trans l') (.bl _)⟩⟩
theorem ok_law {f : Addr} {fd : FuncData} (F : Fun K "law" "law" s_law f fd)
    (C__law_jug : Cl P w K mg base CX0 1 "_law_jug" ["script", "k"] (WellS K)) (C__law_drop : Cl P w K mg base CX0 1 "_law_drop" ["jug", "many"] (PailS K)) (C__law_stirred : Cl P w K mg base CX0 2 "_law_stirred" ["jug", "items"] (MixS K))
    (C__law_effect : Cl P w K mg base CX0 3 "_law_effect" ["jug", "most"] (EffS K)) (C__law_changed : Cl P w K mg base CX0 2 "_law_changed" ["jug", "effect_here"] (ChgS K)) (C_is_possible : Cl P w K mg base CX0 5 "is_possible" ["effect"] (PosS K)) (C__law_possible : Cl P w K mg base CX0 1 "_law_possible" ["effect_here"] (PosS K))
    (C_has_effect : Cl P w K mg base CX0 6 "has_effect" ["script", "effect"] (HasS K)) (C__law_script_right : ClG P w K mg base 7 "_law_script_right" ["jug", "items", "most"] (SRS K))
    (z_range : mg "range" = none) (z_len : mg "len" = none) (z_max : mg "max" = none) (z_min : mg "min" = none) (z_list : mg "list" = none) (z_int : mg "int" = none) (z_repr : mg "repr" = none) (z_dict : mg "dict" = none) : FnG P w K mg base 8 f fd ["script"] (lawS K) :=
  fnG F sc_law fun cdv A outer s H vs Q hg hr h => by
    obtain ⟨a, ns, rfl, hn, hs, q⟩ := h
    have hu := hr.units0
    have hu1 := hu_of hr
    have hgd : (cxOf CX0 P w K mg base N_law "law" (defScope s_law) f cdv A outer s H E0).nox.A.guards = some [] := hg
    have hu64 : (cxOf CX0 P w K mg base N_law "law" (defScope s_law) f cdv A outer s H E0).nox.A.units + 64 < cLine := hr.units
    refine ⟨_, (pss_cons (ps_for PassesOwn.never rfl (pi_range1 (by rfl) z_range (pa_cons (pe_callB (call_max2 rfl) (by rfl) z_max (by decide +kernel) (pa_cons pe_int (pa_cons (pe_callB (call_min2 rfl) (by rfl) z_min (by decide +kernel) (pa_cons pe_int (pa_cons (pe_callB call_len_seq (by rfl) z_len PySem.boot_len (pa_cons (pv 0) pa_nil)) pa_nil))) pa_nil))) pa_nil)) (pg_name (i := 1) sc_law.nd rfl (.inl rfl)) (pss_cons (ps_set (i := 2) sc_law.nd rfl (.inr rfl) (pe_callC C__law_jug (hr.mono (by decide)) (by rfl) pass0 (pa_cons (pv 0) (pa_cons (pv 1) pa_nil)))) (pss_one (ps_for PassesOwn.never rfl (pi_list (pe_lst (pa_cons pe_int (pa_cons pe_int pa_nil)))) (pg_name (i := 3) sc_law.nd rfl (.inl rfl)) (pss_cons (ps_set (i := 4) sc_law.nd rfl (.inr rfl) (pe_callC C__law_effect (hr.mono (by decide)) (by rfl) pass0 (pa_cons (pv 2) (pa_cons (pv 3) pa_nil)))) (pss_cons (ps_for PassesOwn.never rfl (pi_list (pe_op op_addA (pe_lst (pa_cons (pv 4) pa_nil)) (pe_lc (own := [("turn", 11)]) (tt := tYes) (te := (tCall _ [] E0 (tCons (tVar 2) (tCons (tVar 4) tNil)))) rfl sc_law.nd (pi_range1 (by rfl) z_range (pa_cons pe_int pa_nil)) (blkOk_by (N := N_law) (sc := defScope s_law) (by decide +kernel)) (fun _ _ _ _ _ => (pg_name (i := 11) sc_law.nd rfl (.inl rfl))) (fun _ _ _ _ _ => pts_nil) (fun _ _ _ _ _ => (pe_callC C__law_changed (hr.mono (by decide)) (by rfl) pass0 (pa_cons (pv 2) (pa_cons (pv 4) pa_nil))))))) (pg_name (i := 5) sc_law.nd rfl (.inl rfl)) (pss_cons (ps_set (i := 6) sc_law.nd rfl (.inl rfl) (pe_callB (call_repr hgd hu64) (by rfl) z_repr PyProof.Rows.boot_repr (pa_cons (pv 5) pa_nil))) (pss_one (ps_if ((pw_or (pt_cmpR (op_neA hu) (pe_callB (call_repr hgd hu64) (by rfl) z_repr PyProof.Rows.boot_repr (pa_cons (pe_callC C_is_possible (hr.mono (by decide)) (by rfl) pass0 (pa_cons (pv 5) pa_nil)) pa_nil)) (pe_callB (call_repr hgd hu64) (by rfl) z_repr PyProof.Rows.boot_repr (pa_cons (pe_callC C__law_possible (hr.mono (by decide)) (by rfl) pass0 (pa_cons (pv 5) pa_nil)) pa_nil)) (nomark _)) (pw_or1 (pt_cmpR (op_neA hu) (pe_callB (call_repr hgd hu64) (by rfl) z_repr PyProof.Rows.boot_repr (pa_cons (pv 5) pa_nil)) (pv 6) (nomark _))))).pt (pss_one (ps_ret pe_bl)) pss_nil)))) (pss_cons (ps_set (i := 7) sc_law.nd rfl (.inl rfl) (pe_slice sl_any (pe_callC C__law_stirred (hr.mono (by decide)) (by rfl) pass0 (pa_cons (pv 2) (pa_cons (pe_listRg rfl (by rfl) z_list (prg_1 (by rfl) z_range pe_int)) pa_nil))) po_none (po_some (pe_op op_addA pe_int (pe_callC C__law_drop (hr.mono (by decide)) (by rfl) pass0 (pa_cons (pv 2) (pa_cons (pe_op op_sub (pv 3) pe_int) pa_nil))))))) (pss_one (ps_if (pt_not (pt_val (pe_callG C__law_script_right hgd (hr.mono (by decide)) (by rfl) pass0 (pa_cons (pv 2) (pa_cons (pv 7) (pa_cons (pe_ix ix_seq (pe_lst (pa_cons pe_int (pa_cons pe_int pa_nil))) (pe_callTy call_int1 (by rfl) z_int (by decide +kernel) (pa_cons (pe_cmpR (op_eqA hu) (pv 3) pe_int (nomark _)) pa_nil)) (fun _ _ => rfl)) pa_nil)))))) (pss_one (ps_ret pe_bl)) pss_nil))))))))) (pss_cons (ps_set (i := 8) sc_law.nd rfl (.inl rfl) (pe_tup (pa_cons (pe_tup (pa_cons pe_str (pa_cons pe_int (pa_cons pe_int pa_nil)))) (pa_cons (pe_tup (pa_cons pe_str (pa_cons pe_int (pa_cons pe_int pa_nil)))) pa_nil)))) (pss_cons (ps_if (pt_cmpR (op_neD hu64) (pe_lst (pa_cons (pe_callC C_has_effect (hr.mono (by decide)) (by rfl) pass0 (pa_cons (pv 8) (pa_cons (pe_disp (pps_cons pe_int (pe_tup pa_nil) (pps_cons pe_int (pe_tup (pa_cons pe_int (pa_cons pe_int pa_nil))) pps_nil)) rfl rfl (by simp) (by decide)) pa_nil))) (pa_cons (pe_callC C_has_effect (hr.mono (by decide)) (by rfl) pass0 (pa_cons (pv 8) (pa_cons (pe_disp (pps_cons pe_int (pe_tup pa_nil) (pps_cons pe_int (pe_tup (pa_cons pe_int pa_nil)) (pps_cons pe_int (pe_tup (pa_cons pe_int (pa_cons pe_int pa_nil))) pps_nil))) rfl rfl (by simp) (by decide)) pa_nil))) pa_nil))) (pe_lst (pa_cons pe_bl (pa_cons pe_bl pa_nil))) (nomark _)) (pss_one (ps_ret pe_bl)) pss_nil) (pss_cons (ps_set (i := 9) sc_law.nd rfl (.inl rfl) (pe_callTy (call_dictP rfl) (by rfl) z_dict (by decide +kernel) (pa_cons (pe_lc (own := [("item", 12)]) (tt := tYes) (te := (tTup (tCons (tVar 12) (tCons (tTup (tCons (tVar 12) tNil)) tNil)))) rfl sc_law.nd (pi_range1 (by rfl) z_range (pa_cons pe_int pa_nil)) (blkOk_by (N := N_law) (sc := defScope s_law) (by decide +kernel)) (fun _ _ _ _ _ => (pg_name (i := 12) sc_law.nd rfl (.inl rfl))) (fun _ _ _ _ _ => pts_nil) (fun _ _ _ _ _ => (pe_tup (pa_cons (pv 12) (pa_cons (pe_tup (pa_cons (pv 12) pa_nil)) pa_nil))))) pa_nil))) (pss_cons (ps_set (i := 10) sc_law.nd rfl (.inl rfl) (pe_callTy (call_dictP rfl) (by rfl) z_dict (by decide +kernel) (pa_cons (pe_lc (own := [("item", 12)]) (tt := tYes) (te := (tTup (tCons (tVar 12) (tCons (tTup (tCons (tOp (rI (fun _ j => 0 < j) fun i j => .int (i % j)) (tOp (rAddA K) (tVar 12) (tC (.int 1))) (tC (.int 60))) tNil)) tNil)))) rfl sc_law.nd (pi_range1 (by rfl) z_range (pa_cons pe_int pa_nil)) (blkOk_by (N := N_law) (sc := defScope s_law) (by decide +kernel)) (fun _ _ _ _ _ => (pg_name (i := 12) sc_law.nd rfl (.inl rfl))) (fun _ _ _ _ _ => pts_nil) (fun _ _ _ _ _ => (pe_tup (pa_cons (pv 12) (pa_cons (pe_tup (pa_cons (pe_op op_mod (pe_op op_addA (pv 12) pe_int) pe_int) pa_nil)) pa_nil))))) pa_nil))) (pss_one (ps_ret (pe_cmpR (op_eqD hu64) (pe_lst (pa_cons (pe_callC C_is_possible (hr.mono (by decide)) (by rfl) pass0 (pa_cons (pv 9) pa_nil)) (pa_cons (pe_callC C_is_possible (hr.mono (by decide)) (by rfl) pass0 (pa_cons (pv 10) pa_nil)) pa_nil))) (pe_lst (pa_cons pe_bl (pa_cons pe_bl pa_nil))) (nomark _))))))))), ?_⟩
    have lenE : Ev K (tCB (rLenA K) (tCons (tVar 0) tNil)) (L2.start N_law [.ref a]) H H (.int ns.length) := fun B1 H1 l Q q => ⟨.ref a, rfl, a, ns.map V.int, rfl, .inl (Evl.ex_l l.ex hs), by rw [List.length_map]; exact q _ B1 H1 (Le.refl l.h) (.int _)⟩
    have cells : EvA K (tCons (tCB rMax2 (tCons (tC (.int 1)) (tCons (tCB rMin2 (tCons (tC (.int 8)) (tCons (tCB (rLenA K) (tCons (tVar 0) tNil)) tNil))) tNil))) tNil) (L2.start N_law [.ref a]) H H [.int ((max 1 (min 8 ns.length) : Nat) : Int)] := by
      have z := ea_cons (ev_cb (rr := rMax2) (ea_cons (ev_c (K := K) (.int 1)) (ea_cons (ev_cb (rr := rMin2) (ea_cons (ev_c (.int 8)) (ea_cons lenE ea_nil)) rc_min) ea_nil)) rc_max) ea_nil
      rwa [show max 1 (min 8 (ns.length : Int)) = ((max 1 (min 8 ns.length) : Nat) : Int) by omega] at z
    refine q_forR1 (K := K) [] cells (by omega) (Ex.refl H) (fun i σ' B' H' => ∃ o1 o2 o3 o4 o5 o6 o7 o11 o12, σ' = [some (.ref a), o1, o2, o3, o4, o5, o6, o7, none, none, none, o11, o12]) (fun B' H' l => ⟨_, _, _, _, _, _, _, _, _, rfl⟩) ?_ ?_
    · rintro k σ' B H0 N l0 hk ⟨o1, o2, o3, o4, o5, o6, o7, o11, o12, rfl⟩ hN
      -- jug
      refine ⟨.ref a, rfl, .int (k : Nat), rfl, a, ns, (k : Nat), rfl, Evl.ex_l l0.ex hs, ⟨by omega, by omega⟩, fun g x y hp hy => ?_⟩
      have hB := none_of l0.h hp
      have l1 : Le [g] B H0 B (upd H0 g (.lst [.int x, .int y, .int 0])) := Le.made l0.h hp
      have w1 : Wl g 0 B (upd H0 g (.lst [.int x, .int y, .int 0])) := ⟨hB, x, y, 0, upd_same, hy, by decide, by decide⟩
      -- both widths
      refine s_forM (K := K) [g] (xs := [.int 5, .int 60]) (ev_lst (ea_cons (ev_c (.int 5)) (ea_cons (ev_c (.int 60)) ea_nil)) (size_ok (by show 2 ≤ 100000; decide))) l1.h (fun i σ' B' H' => ∃ o3 o4 o5 o6 o7 o11 o12, σ' = [some (.ref a), some (.int (k : Nat)), some (.ref g), o3, o4, o5, o6, o7, none, none, none, o11, o12] ∧ Wl g (7000 * i) B' H') (fun B' H' l => ⟨_, _, _, _, _, _, _, rfl, w1.pure l⟩) ?_ ?_
      · rintro i d v σ' Ba Ha N2 la hd hv ⟨o3, o4, o5, o6, o7, o11, o12, rfl, wa⟩ hN2
        obtain ⟨most, hmost, rfl, hi2⟩ : ∃ most : Int, (most = 5 ∨ most = 60) ∧ d = .int most ∧ i < 2 := by
          match i, hd with
          | 0, hd => cases hd; exact ⟨5, .inl rfl, rfl, by decide⟩
          | 1, hd => cases hd; exact ⟨60, .inr rfl, rfl, by decide⟩
        cases hv
        -- effect_here
        refine w_set (K := K) (g := g) (c := 4000) (m := 7000 * i) (R := fun d => ∃ ns m, d = effT ns m ∧ EffV ns m) (Ew.wk (Ew.imp (ew_call (a := 0 + 0) (i := 2) rfl (ewa_cons (ew_of fun _ _ l => ev_var (i := 3) rfl (.int most)) ewa_nil) fun ds r => by
            obtain ⟨_, _, rfl, rfl, rfl⟩ := r
            exact ⟨most, rfl, by omega, by omega⟩) fun d r => by
            obtain ⟨_, _, ns, m, rfl, V⟩ := r
            exact ⟨ns, m, rfl, V⟩) (by decide)) (by omega) la.h wa ?_
        rintro d v4 Bb Hb ⟨es, m0, rfl, V0⟩ lb wb hv4
        -- for value in ..
        refine w_forSrc (K := K) (g := g) (c := 0 + 100 * 6) (m := 7000 * i + 4000) (S := fun xs => ∀ d ∈ xs, ∃ ns m, d = effT ns m ∧ EffV ns m) (Ew.imp (ew_addL (n := 1) (k := 6) (R := fun d => ∃ ns m, d = effT ns m ∧ EffV ns m) (ew_lstR (ewa_consR ((ew_of fun _ _ l => ev_var (i := 4) rfl (hv4.mono l.b)).imp fun d h => ⟨es, m0, h, V0⟩) ewa_nilR) (by decide))
          (ew_lcRg (n := 6) (j := 11) (vs := [11]) (fun _ _ _ => ea_cons (ev_c (.int 6)) ea_nil) (by decide) fun t B' H' _ l => Ew.wk (Ew.imp (ew_call (a := 0 + 0) (i := 2) rfl (ewa_cons (ew_of fun _ _ l' => ev_var (i := 4) rfl ((hv4.mono l.b).mono l'.b)) ewa_nil) fun ds r => by
            obtain ⟨_, _, rfl, rfl, rfl⟩ := r
            exact ⟨es, m0, rfl, V0⟩) fun d r => by
            obtain ⟨_, _, ns, m, m', _, rfl, V⟩ := r
            exact ⟨ns, m', rfl, V⟩) (by decide)) (by decide)) fun d h => by
          obtain ⟨ds, rfl, _, h⟩ := h
          exact ⟨ds, rfl, h⟩) (by omega) lb.h wb ?_
        rintro xs vx Bc Hc hxs lc wc hvx
        refine q_forM (K := K) [] (ev_val hvx) lc.h (fun t σ' B' H' => ∃ o5 o6, σ' = [some (.ref a), some (.int (k : Nat)), some (.ref g), some (.int most), some v4, o5, o6, o7, none, none, none, o11, o12]) (fun B' H' l => ⟨_, _, rfl⟩) ?_ ?_
        · rintro t d v5 σ' Bd Hd N3 ld hd hv5 ⟨o5, o6, rfl⟩ hN3
          obtain ⟨es2, m2, rfl, V2⟩ := hxs d (List.mem_of_getElem? hd)
          have ov := ov_effV V2
          refine q_set (K := K) (i := 6) (ev_repr (ev_var (i := 5) rfl hv5) ov) ld.h fun v6 Be He le hv6 => ?_
          refine s_when (k := false || false) (et_or (et_same (K := K) (ev_repr (ev_pos (i := 5) rfl (hv5.mono le.b) V2) (ov_bool _)) (ev_repr (ev_pos (i := 5) rfl (hv5.mono le.b) V2) (ov_bool _))) fun _ => et_same (K := K) (ev_repr (ev_var (i := 5) rfl (hv5.mono le.b)) ov) (ev_var (i := 6) rfl hv6)) le.h (fun h => by cases h) fun _ Bf Hf lf => ?_
          exact hN3 _ Bf Hf (le.trans lf) ⟨_, _, rfl⟩
        rintro σ' Bd Hd ld ⟨o5, o6, rfl⟩
        have wd := wc.pureM ld (by simp)
        -- items
        refine w_set (K := K) (g := g) (c := 60 + (0 + 1)) (m := 7000 * i + 4000 + (0 + 100 * 6)) (R := fun d => ∃ ss : List Int, d = .list (ss.map PyData.int) ∧ ss.Nodup ∧ 2 ≤ ss.length ∧ ss.length ≤ 60 ∧ ∀ k ∈ ss, 0 ≤ k ∧ k < 60)
          (ew_sl (P := fun r => 2 ≤ r ∧ r ≤ 60) (ew_mixG PyData.int (xs := (List.range 60).map fun (i : Nat) => (i : Int)) rfl (fun _ _ _ => ev_lstRg (n := 60) (by decide)) (by simp)) (wi_add (P1 := (· = 2)) (wi_c rfl) (ew_pailC (n := most - 1) rfl (fun _ _ _ => ev_op (ev_var (i := 3) rfl (.int most)) (ev_c (.int 1)) rv_int0) (by omega) (by omega)) fun i j h1 h2 => by subst h1; omega) fun x i h1 h2 => by
            obtain ⟨ys, rfl, pm⟩ := h1
            have r := rs_L (K := K) (ds := ys.map PyData.int) (lo := none) (hi := some i)
            rw [cut_ints ys (by omega)] at r
            have yl : ys.length = 60 := by rw [pm.length_eq]; simp
            refine ⟨_, r, ys.take i.toNat, rfl, ?_, by rw [List.length_take, yl]; omega, by rw [List.length_take, yl]; omega, fun k hk => ?_⟩
            · refine (pm.nodup_iff.mpr ?_).sublist (List.take_sublist _ _)
              exact all60_eff.nd
            · have := pm.mem_iff.mp (List.mem_of_mem_take hk)
              obtain ⟨a, ha, rfl⟩ := List.mem_map.mp this
              have := List.mem_range.mp ha
              omega) (by omega) ld.h wd ?_
        rintro d v7 Be He ⟨ss, rfl, snd, s2, s60, sin⟩ le we hv7
        -- the script
        have scr : EwT g (0 + (0 + ((0 + 0) + 0)) + 2000) (tNot (tB (tCall (SRS K) [] E0 (tCons (tVar 2) (tCons (tVar 7) (tCons (tOp (rIx K) (tLst (tCons (tC (.int 5)) (tCons (tC (.int 200)) tNil))) (tCB rInt1 (tCons (tOp (rEqA K) (tVar 3) (tC (.int 60))) tNil))) tNil)))))) [some (.ref a), some (.int (k : Nat)), some (.ref g), some (.int most), some v4, o5, o6, some v7, none, none, none, o11, o12] Be He (· = !true) :=
          ewt_notB (K := K) (Ew.imp (ew_call (K := K) (i := 2) rfl (ewa_cons (ew_of fun _ _ l => ev_var (i := 7) rfl (hv7.mono l.b)) (ewa_cons (ew_pickR (n := 2) (P := fun r => 0 ≤ r ∧ r < 2) (R := RI fun r => 1 ≤ r ∧ r ≤ 200) (ew_lstR (ewa_consR (wi_c (by omega)) (ewa_consR (wi_c (by omega)) ewa_nilR)) (by decide)) (wi_ev (k := if decide (most = 60) = true then 1 else 0) (fun _ _ _ => ev_cb (rr := rInt1) (ea_cons (ev_op (ev_var (i := 3) rfl (.int most)) (ev_c (.int 60)) rv_eqI) ea_nil) rc_int1) (by split <;> simp)) fun i h => h) ewa_nil)) fun ds r => by
            obtain ⟨_, _, rfl, rfl, _, _, rfl, ⟨n, rfl, n1, n2⟩, rfl⟩ := r
            exact ⟨ss, n, rfl, snd, s2, s60, sin, n1, n2⟩) fun d r => by
            obtain ⟨_, _, rfl⟩ := r
            rfl)
        refine s_whenD scr (by omega) le.h we (fun B' H' s => by cases s) fun Bf Hf _ lf wf => ?_
        exact hN2 _ Bf Hf (((lb.trans lc).trans ld.any).trans (le.trans lf)) ⟨_, _, _, _, _, _, _, rfl, wf.mono (by omega)⟩
      · rintro σ' Ba Ha la ⟨o3, o4, o5, o6, o7, o11, o12, rfl, wa⟩
        exact hN _ Ba Ha ((l1.trans la).local hp) ⟨_, _, _, _, _, _, _, _, _, rfl⟩
    rintro σ' B1 H1 l1 ⟨o1, o2, o3, o4, o5, o6, o7, o11, o12, rfl⟩
    -- way
    have st : ∀ {i j : Int} {B' H' : Hp} {σ' : L2.St}, Ev K (tTup (tCons (tC (.str "behind")) (tCons (tC (.int i)) (tCons (tC (.int j)) tNil)))) σ' B' H' (.tuple [.str "behind", .int i, .int j]) := fun {i j B' H' σ'} => ev_tup (ea_cons (ev_c (.str _)) (ea_cons (ev_c (.int i)) (ea_cons (ev_c (.int j)) ea_nil))) (size_ok (by show 3 ≤ 100000; decide))
    refine q_set (K := K) (d := .tuple csW) (ev_tup (ea_cons st (ea_cons st ea_nil)) (size_ok (by show 2 ≤ 100000; decide))) l1.h fun v8 B2 H2 l2 h8 => ?_
    -- two effects of few items
    have d2 : ∀ B' H', Le [] B2 H2 B' H' → Ev K (tDisp [(tC (.int 0), tTup tNil), (tC (.int 2), tTup (tCons (tC (.int 2)) (tCons (tC (.int 0)) tNil)))]) [some (.ref a), o1, o2, o3, o4, o5, o6, o7, some v8, none, none, o11, o12] B' H' (effT [0, 2] mW) := fun B' H' l => ev_disp (K := K) (F := tupI mW) (fun B1 H1 => ep_cons (d := tupI mW 0) (ev_tup ea_nil (Nat.zero_le _)) (ep_cons (d := tupI mW 2) (ev_tup (ea_cons (ev_c (.int 2)) (ea_cons (ev_c (.int 0)) ea_nil)) (size_ok (by show 2 ≤ 100000; decide))) ep_nil)) (by decide) (by decide)
    have d3 : ∀ B' H', Le [] B2 H2 B' H' → Ev K (tDisp [(tC (.int 0), tTup tNil), (tC (.int 1), tTup (tCons (tC (.int 1)) tNil)), (tC (.int 2), tTup (tCons (tC (.int 2)) (tCons (tC (.int 0)) tNil)))]) [some (.ref a), o1, o2, o3, o4, o5, o6, o7, some v8, none, none, o11, o12] B' H' (effT [0, 1, 2] mW) := fun B' H' l => ev_disp (K := K) (F := tupI mW) (fun B1 H1 => ep_cons (d := tupI mW 0) (ev_tup ea_nil (Nat.zero_le _)) (ep_cons (d := tupI mW 1) (ev_tup (ea_cons (ev_c (.int 1)) ea_nil) (size_ok (by show 1 ≤ 100000; decide))) (ep_cons (d := tupI mW 2) (ev_tup (ea_cons (ev_c (.int 2)) (ea_cons (ev_c (.int 0)) ea_nil)) (size_ok (by show 2 ≤ 100000; decide))) ep_nil))) (by decide) (by decide)
    have two : Ev K _ [some (.ref a), o1, o2, o3, o4, o5, o6, o7, some v8, none, none, o11, o12] B2 H2 _ := ev_op (ev_lst (ea_cons (ev_hasT (i := 8) rfl h8 csW_ok (d2 B2 H2 (Le.refl l2.h)) mW_two) (ea_cons (ev_hasT (i := 8) rfl h8 csW_ok (d3 B2 H2 (Le.refl l2.h)) mW_three) ea_nil)) (size_ok (by show 2 ≤ 100000; decide))) (ev_lst (ea_cons (ev_b (k := false)) (ea_cons (ev_b (k := true)) ea_nil)) (size_ok (by show 2 ≤ 100000; decide))) (rv_neLB (as := [_, _]) (bs := [false, true]))
    rw [hasW_two, hasW_three] at two
    refine q_when (k := false) (et_test two) l2.h (fun h => by cases h) fun _ B3 H3 l3 => ?_
    clear two d2 d3
    -- whole, turned
    have c1 := ev_lcR (K := K) (σ := [some (.ref a), o1, o2, o3, o4, o5, o6, o7, some v8, none, none, o11, o12]) (B := B3) (H := H3) (tn := tC (.int 60)) (n := 60) (j := 12) (vs := [12]) (tt := tYes) (te := tTup (tCons (tVar 12) (tCons (tTup (tCons (tVar 12) tNil)) tNil)))
      (fun _ => true) (fun i => .tuple [.int (i : Nat), .tuple [.int (i : Nat)]]) (ev_c (.int 60)) (by decide) (fun i B1 H1 l hi => et_yes) (fun i B1 H1 l hi _ => ev_tup (ea_cons (ev_var rfl (.int _)) (ea_cons (ev_tup (ea_cons (ev_var rfl (.int _)) ea_nil) (size_ok (by show 1 ≤ 100000; decide))) ea_nil)) (size_ok (by show 2 ≤ 100000; decide)))
    rw [show picked (fun _ => true) (fun i => .tuple [.int (i : Nat), .tuple [.int (i : Nat)]]) 60 = all60.map fun n => PyData.tuple [.int n, tupI (fun n => [n]) n] by unfold picked all60; rw [List.filter_eq_self.mpr (fun _ _ => rfl), List.map_map]; rfl] at c1
    refine q_asgR (od_pairs (K := K) (ns := all60) (F := tupI fun n => [n]) c1 l3.h all60_eff.nd fun p9 B4' H4 l4' hp9 x9 => ?_)
    obtain ⟨B4, l4, h9, _⟩ := x9.given l4' hp9
    clear c1 x9 l4'
    have c2 := ev_lcR (K := K) (σ := [some (.ref a), o1, o2, o3, o4, o5, o6, o7, some v8, some (.ref p9), none, o11, o12]) (B := B4) (H := H4) (tn := tC (.int 60)) (n := 60) (j := 12) (vs := [12]) (tt := tYes) (te := tTup (tCons (tVar 12) (tCons (tTup (tCons (tOp (rI (fun _ j => 0 < j) fun i j => .int (i % j)) (tOp (rAddA K) (tVar 12) (tC (.int 1))) (tC (.int 60))) tNil)) tNil)))
      (fun _ => true) (fun i => .tuple [.int (i : Nat), .tuple [.int (((i : Nat) + 1) % 60)]]) (ev_c (.int 60)) (by decide) (fun i B1 H1 l hi => et_yes) (fun i B1 H1 l hi _ => ev_tup (ea_cons (ev_var rfl (.int _)) (ea_cons (ev_tup (ea_cons (ev_op (ev_op (ev_var (i := 12) rfl (.int _)) (ev_c (.int 1)) rv_addI) (ev_c (.int 60)) (rv_int (by show (0 : Int) < 60; decide))) ea_nil) (size_ok (by show 1 ≤ 100000; decide))) ea_nil)) (size_ok (by show 2 ≤ 100000; decide)))
    rw [show picked (fun _ => true) (fun i => .tuple [.int (i : Nat), .tuple [.int (((i : Nat) + 1) % 60)]]) 60 = all60.map fun n => PyData.tuple [.int n, tupI mT n] by unfold picked all60; rw [List.filter_eq_self.mpr (fun _ _ => rfl), List.map_map]; rfl] at c2
    refine q_asgR (od_pairs (K := K) (ns := all60) (F := tupI mT) c2 l4.h all60_eff.nd fun p10 B5' H5 l5' hp10 x10 => ?_)
    obtain ⟨B5, l5, h10, _⟩ := x10.given l5' hp10
    clear c2 x10 l5'
    have fin := ev_op (K := K) (σ := [some (.ref a), o1, o2, o3, o4, o5, o6, o7, some v8, some (.ref p9), some (.ref p10), o11, o12]) (B := B5) (H := H5) (ev_lst (ea_cons (ev_pos (i := 9) rfl (h9.mono l5.b) all60_eff) (ea_cons (ev_pos (i := 10) rfl h10 mT_eff) ea_nil)) (size_ok (by show 2 ≤ 100000; decide))) (ev_lst (ea_cons (ev_b (k := true)) (ea_cons (ev_b (k := false)) ea_nil)) (size_ok (by show 2 ≤ 100000; decide))) (rv_eqLB (as := [_, _]) (bs := [true, false]))
    rw [all60_pos, mT_pos] at fin
    refine s_ret (K := K) (d := .bool true) fin l5.h fun v B6 H6 l6 hv => ?_
    cases hv
    exact q H6
end
end K34

set_option maxRecDepth 100000
set_option maxHeartbeats 8000000
namespace K34
open PySem PySem.Spec PyProof.Rows L2 MA
theorem words_vals {its : Array Value} (h : its.toList.map absV = [some (.str "behind"), some (.str "before")]) : Vals [V.str "behind", V.str "before"] its.toList := by
  match q : its.toList, h with
  | [], h => exact absurd (congrArg List.length h) (by simp)
  | [x], h => exact absurd (congrArg List.length h) (by simp)
  | [x, y], h =>
    have h1 : absV x = some (V.str "behind") := (List.cons.inj h).1
    have h2 : absV y = some (V.str "before") := (List.cons.inj (List.cons.inj h).2).1
    have str_of : ∀ (v : Value) (s : PySem.Str), absV v = some (V.str s) → RelV (V.str s) v := fun v s e => by
      cases v <;> first | (cases e; exact ⟨_, rfl⟩) | cases e
    exact .cons (str_of x _ h1) (.cons (str_of y _ h2) .nil)
  | _ :: _ :: _ :: _, h => exact absurd (congrArg List.length h) (by simp)
theorem df_is_within {K : PySem.W.Frag} {mg : PySem.Str → Option Value} {f : Addr} {fd : FuncData} (F : Fun K "is_within" "is_within" s_is_within f fd) (h : mg "is_within" = some (.ref f)) : Df K mg "is_within" s_is_within ["value", "least", "most"] := ⟨f, fd, F, h, F.binds (ps := ["value", "least", "most"]) fun _ _ _ _ _ _ us hl => match us, hl with | [_, _, _], _ => rfl⟩
theorem df_is_item {K : PySem.W.Frag} {mg : PySem.Str → Option Value} {f : Addr} {fd : FuncData} (F : Fun K "is_item" "is_item" s_is_item f fd) (h : mg "is_item" = some (.ref f)) : Df K mg "is_item" s_is_item ["value"] := ⟨f, fd, F, h, F.binds (ps := ["value"]) fun _ _ _ _ _ _ us hl => match us, hl with | [_], _ => rfl⟩
theorem df_is_command {K : PySem.W.Frag} {mg : PySem.Str → Option Value} {f : Addr} {fd : FuncData} (F : Fun K "is_command" "is_command" s_is_command f fd) (h : mg "is_command" = some (.ref f)) : Df K mg "is_command" s_is_command ["value"] := ⟨f, fd, F, h, F.binds (ps := ["value"]) fun _ _ _ _ _ _ us hl => match us, hl with | [_], _ => rfl⟩
theorem df_is_script {K : PySem.W.Frag} {mg : PySem.Str → Option Value} {f : Addr} {fd : FuncData} (F : Fun K "is_script" "is_script" s_is_script f fd) (h : mg "is_script" = some (.ref f)) : Df K mg "is_script" s_is_script ["value"] := ⟨f, fd, F, h, F.binds (ps := ["value"]) fun _ _ _ _ _ _ us hl => match us, hl with | [_], _ => rfl⟩
theorem df_require_script {K : PySem.W.Frag} {mg : PySem.Str → Option Value} {f : Addr} {fd : FuncData} (F : Fun K "require_script" "require_script" s_require_script f fd) (h : mg "require_script" = some (.ref f)) : Df K mg "require_script" s_require_script ["value"] := ⟨f, fd, F, h, F.binds (ps := ["value"]) fun _ _ _ _ _ _ us hl => match us, hl with | [_], _ => rfl⟩
theorem df_named_items {K : PySem.W.Frag} {mg : PySem.Str → Option Value} {f : Addr} {fd : FuncData} (F : Fun K "named_items" "named_items" s_named_items f fd) (h : mg "named_items" = some (.ref f)) : Df K mg "named_items" s_named_items ["script"] := ⟨f, fd, F, h, F.binds (ps := ["script"]) fun _ _ _ _ _ _ us hl => match us, hl with | [_], _ => rfl⟩
theorem df_played {K : PySem.W.Frag} {mg : PySem.Str → Option Value} {f : Addr} {fd : FuncData} (F : Fun K "played" "played" s_played f fd) (h : mg "played" = some (.ref f)) : Df K mg "played" s_played ["items", "script"] := ⟨f, fd, F, h, F.binds (ps := ["items", "script"]) fun _ _ _ _ _ _ us hl => match us, hl with | [_, _], _ => rfl⟩
theorem df_fenced {K : PySem.W.Frag} {mg : PySem.Str → Option Value} {f : Addr} {fd : FuncData} (F : Fun K "fenced" "fenced" s_fenced f fd) (h : mg "fenced" = some (.ref f)) : Df K mg "fenced" s_fenced ["items"] := ⟨f, fd, F, h, F.binds (ps := ["items"]) fun _ _ _ _ _ _ us hl => match us, hl with | [_], _ => rfl⟩
theorem df_between_fences {K : PySem.W.Frag} {mg : PySem.Str → Option Value} {f : Addr} {fd : FuncData} (F : Fun K "between_fences" "between_fences" s_between_fences f fd) (h : mg "between_fences" = some (.ref f)) : Df K mg "between_fences" s_between_fences ["row"] := ⟨f, fd, F, h, F.binds (ps := ["row"]) fun _ _ _ _ _ _ us hl => match us, hl with | [_], _ => rfl⟩
theorem df_effect_of {K : PySem.W.Frag} {mg : PySem.Str → Option Value} {f : Addr} {fd : FuncData} (F : Fun K "effect_of" "effect_of" s_effect_of f fd) (h : mg "effect_of" = some (.ref f)) : Df K mg "effect_of" s_effect_of ["script"] := ⟨f, fd, F, h, F.binds (ps := ["script"]) fun _ _ _ _ _ _ us hl => match us, hl with | [_], _ => rfl⟩
theorem df_is_effect {K : PySem.W.Frag} {mg : PySem.Str → Option Value} {f : Addr} {fd : FuncData} (F : Fun K "is_effect" "is_effect" s_is_effect f fd) (h : mg "is_effect" = some (.ref f)) : Df K mg "is_effect" s_is_effect ["value"] := ⟨f, fd, F, h, F.binds (ps := ["value"]) fun _ _ _ _ _ _ us hl => match us, hl with | [_], _ => rfl⟩
theorem df_require_effect {K : PySem.W.Frag} {mg : PySem.Str → Option Value} {f : Addr} {fd : FuncData} (F : Fun K "require_effect" "require_effect" s_require_effect f fd) (h : mg "require_effect" = some (.ref f)) : Df K mg "require_effect" s_require_effect ["value"] := ⟨f, fd, F, h, F.binds (ps := ["value"]) fun _ _ _ _ _ _ us hl => match us, hl with | [_], _ => rfl⟩
theorem df_has_possible_blocks {K : PySem.W.Frag} {mg : PySem.Str → Option Value} {f : Addr} {fd : FuncData} (F : Fun K "has_possible_blocks" "has_possible_blocks" s_has_possible_blocks f fd) (h : mg "has_possible_blocks" = some (.ref f)) : Df K mg "has_possible_blocks" s_has_possible_blocks ["effect"] := ⟨f, fd, F, h, F.binds (ps := ["effect"]) fun _ _ _ _ _ _ us hl => match us, hl with | [_], _ => rfl⟩
theorem df_is_possible {K : PySem.W.Frag} {mg : PySem.Str → Option Value} {f : Addr} {fd : FuncData} (F : Fun K "is_possible" "is_possible" s_is_possible f fd) (h : mg "is_possible" = some (.ref f)) : Df K mg "is_possible" s_is_possible ["effect"] := ⟨f, fd, F, h, F.binds (ps := ["effect"]) fun _ _ _ _ _ _ us hl => match us, hl with | [_], _ => rfl⟩
theorem df_has_effect {K : PySem.W.Frag} {mg : PySem.Str → Option Value} {f : Addr} {fd : FuncData} (F : Fun K "has_effect" "has_effect" s_has_effect f fd) (h : mg "has_effect" = some (.ref f)) : Df K mg "has_effect" s_has_effect ["script", "effect"] := ⟨f, fd, F, h, F.binds (ps := ["script", "effect"]) fun _ _ _ _ _ _ us hl => match us, hl with | [_, _], _ => rfl⟩
theorem df__law_jug {K : PySem.W.Frag} {mg : PySem.Str → Option Value} {f : Addr} {fd : FuncData} (F : Fun K "_law_jug" "_law_jug" s__law_jug f fd) (h : mg "_law_jug" = some (.ref f)) : Df K mg "_law_jug" s__law_jug ["script", "k"] := ⟨f, fd, F, h, F.binds (ps := ["script", "k"]) fun _ _ _ _ _ _ us hl => match us, hl with | [_, _], _ => rfl⟩
theorem df__law_drop {K : PySem.W.Frag} {mg : PySem.Str → Option Value} {f : Addr} {fd : FuncData} (F : Fun K "_law_drop" "_law_drop" s__law_drop f fd) (h : mg "_law_drop" = some (.ref f)) : Df K mg "_law_drop" s__law_drop ["jug", "many"] := ⟨f, fd, F, h, F.binds (ps := ["jug", "many"]) fun _ _ _ _ _ _ us hl => match us, hl with | [_, _], _ => rfl⟩
theorem df__law_stirred {K : PySem.W.Frag} {mg : PySem.Str → Option Value} {f : Addr} {fd : FuncData} (F : Fun K "_law_stirred" "_law_stirred" s__law_stirred f fd) (h : mg "_law_stirred" = some (.ref f)) : Df K mg "_law_stirred" s__law_stirred ["jug", "items"] := ⟨f, fd, F, h, F.binds (ps := ["jug", "items"]) fun _ _ _ _ _ _ us hl => match us, hl with | [_, _], _ => rfl⟩
theorem df__law_script {K : PySem.W.Frag} {mg : PySem.Str → Option Value} {f : Addr} {fd : FuncData} (F : Fun K "_law_script" "_law_script" s__law_script f fd) (h : mg "_law_script" = some (.ref f)) : Df K mg "_law_script" s__law_script ["jug", "items", "most"] := ⟨f, fd, F, h, F.binds (ps := ["jug", "items", "most"]) fun _ _ _ _ _ _ us hl => match us, hl with | [_, _, _], _ => rfl⟩
theorem df__law_blocks {K : PySem.W.Frag} {mg : PySem.Str → Option Value} {f : Addr} {fd : FuncData} (F : Fun K "_law_blocks" "_law_blocks" s__law_blocks f fd) (h : mg "_law_blocks" = some (.ref f)) : Df K mg "_law_blocks" s__law_blocks ["items", "script_here"] := ⟨f, fd, F, h, F.binds (ps := ["items", "script_here"]) fun _ _ _ _ _ _ us hl => match us, hl with | [_, _], _ => rfl⟩
theorem df__law_effect {K : PySem.W.Frag} {mg : PySem.Str → Option Value} {f : Addr} {fd : FuncData} (F : Fun K "_law_effect" "_law_effect" s__law_effect f fd) (h : mg "_law_effect" = some (.ref f)) : Df K mg "_law_effect" s__law_effect ["jug", "most"] := ⟨f, fd, F, h, F.binds (ps := ["jug", "most"]) fun _ _ _ _ _ _ us hl => match us, hl with | [_, _], _ => rfl⟩
theorem df__law_possible {K : PySem.W.Frag} {mg : PySem.Str → Option Value} {f : Addr} {fd : FuncData} (F : Fun K "_law_possible" "_law_possible" s__law_possible f fd) (h : mg "_law_possible" = some (.ref f)) : Df K mg "_law_possible" s__law_possible ["effect_here"] := ⟨f, fd, F, h, F.binds (ps := ["effect_here"]) fun _ _ _ _ _ _ us hl => match us, hl with | [_], _ => rfl⟩
theorem df__law_changed {K : PySem.W.Frag} {mg : PySem.Str → Option Value} {f : Addr} {fd : FuncData} (F : Fun K "_law_changed" "_law_changed" s__law_changed f fd) (h : mg "_law_changed" = some (.ref f)) : Df K mg "_law_changed" s__law_changed ["jug", "effect_here"] := ⟨f, fd, F, h, F.binds (ps := ["jug", "effect_here"]) fun _ _ _ _ _ _ us hl => match us, hl with | [_, _], _ => rfl⟩
theorem df__law_script_right {K : PySem.W.Frag} {mg : PySem.Str → Option Value} {f : Addr} {fd : FuncData} (F : Fun K "_law_script_right" "_law_script_right" s__law_script_right f fd) (h : mg "_law_script_right" = some (.ref f)) : Df K mg "_law_script_right" s__law_script_right ["jug", "items", "most"] := ⟨f, fd, F, h, F.binds (ps := ["jug", "items", "most"]) fun _ _ _ _ _ _ us hl => match us, hl with | [_, _, _], _ => rfl⟩
set_option maxHeartbeats 0 in
theorem all_mk {P : Program} {w : World} {K : PySem.W.Frag} {h : Heap} {mg : PySem.Str → Option Value} {fa : Addr} (X : K.In h) (G : h.Ns mainGlobals mg) (hfa : mg "law" = some (.ref fa))
    {f_is_within : Addr} {od_is_within an_is_within : Option Addr} {sl_is_within : Array (Option Value)} {oc_is_within kV_is_within dc_is_within pm_is_within cd_is_within ct_is_within : Value}
    (a_is_within : PySem.W.nsIn K mainGlobals "is_within" = some (some (.ref f_is_within))) (l_is_within : K.lookup f_is_within = some ⟨oc_is_within, od_is_within, .func (PySem.W.fnOf "is_within" "is_within" (defArgs s_is_within) (defBody s_is_within) (defScope s_is_within) .none kV_is_within dc_is_within pm_is_within an_is_within cd_is_within ct_is_within), sl_is_within⟩) (c_is_within : PySem.W.codeIn K cd_is_within "is_within" = true) (k_is_within : PySem.W.keepIn K (.ref f_is_within) = true)
    {f_is_item : Addr} {od_is_item an_is_item : Option Addr} {sl_is_item : Array (Option Value)} {oc_is_item kV_is_item dc_is_item pm_is_item cd_is_item ct_is_item : Value}
    (a_is_item : PySem.W.nsIn K mainGlobals "is_item" = some (some (.ref f_is_item))) (l_is_item : K.lookup f_is_item = some ⟨oc_is_item, od_is_item, .func (PySem.W.fnOf "is_item" "is_item" (defArgs s_is_item) (defBody s_is_item) (defScope s_is_item) .none kV_is_item dc_is_item pm_is_item an_is_item cd_is_item ct_is_item), sl_is_item⟩) (c_is_item : PySem.W.codeIn K cd_is_item "is_item" = true) (k_is_item : PySem.W.keepIn K (.ref f_is_item) = true)
    {f_is_command : Addr} {od_is_command an_is_command : Option Addr} {sl_is_command : Array (Option Value)} {oc_is_command kV_is_command dc_is_command pm_is_command cd_is_command ct_is_command : Value}
    (a_is_command : PySem.W.nsIn K mainGlobals "is_command" = some (some (.ref f_is_command))) (l_is_command : K.lookup f_is_command = some ⟨oc_is_command, od_is_command, .func (PySem.W.fnOf "is_command" "is_command" (defArgs s_is_command) (defBody s_is_command) (defScope s_is_command) .none kV_is_command dc_is_command pm_is_command an_is_command cd_is_command ct_is_command), sl_is_command⟩) (c_is_command : PySem.W.codeIn K cd_is_command "is_command" = true) (k_is_command : PySem.W.keepIn K (.ref f_is_command) = true)
    {f_is_script : Addr} {od_is_script an_is_script : Option Addr} {sl_is_script : Array (Option Value)} {oc_is_script kV_is_script dc_is_script pm_is_script cd_is_script ct_is_script : Value}
    (a_is_script : PySem.W.nsIn K mainGlobals "is_script" = some (some (.ref f_is_script))) (l_is_script : K.lookup f_is_script = some ⟨oc_is_script, od_is_script, .func (PySem.W.fnOf "is_script" "is_script" (defArgs s_is_script) (defBody s_is_script) (defScope s_is_script) .none kV_is_script dc_is_script pm_is_script an_is_script cd_is_script ct_is_script), sl_is_script⟩) (c_is_script : PySem.W.codeIn K cd_is_script "is_script" = true) (k_is_script : PySem.W.keepIn K (.ref f_is_script) = true)
    {f_require_script : Addr} {od_require_script an_require_script : Option Addr} {sl_require_script : Array (Option Value)} {oc_require_script kV_require_script dc_require_script pm_require_script cd_require_script ct_require_script : Value}
    (a_require_script : PySem.W.nsIn K mainGlobals "require_script" = some (some (.ref f_require_script))) (l_require_script : K.lookup f_require_script = some ⟨oc_require_script, od_require_script, .func (PySem.W.fnOf "require_script" "require_script" (defArgs s_require_script) (defBody s_require_script) (defScope s_require_script) .none kV_require_script dc_require_script pm_require_script an_require_script cd_require_script ct_require_script), sl_require_script⟩) (c_require_script : PySem.W.codeIn K cd_require_script "require_script" = true) (k_require_script : PySem.W.keepIn K (.ref f_require_script) = true)
    {f_named_items : Addr} {od_named_items an_named_items : Option Addr} {sl_named_items : Array (Option Value)} {oc_named_items kV_named_items dc_named_items pm_named_items cd_named_items ct_named_items : Value}
    (a_named_items : PySem.W.nsIn K mainGlobals "named_items" = some (some (.ref f_named_items))) (l_named_items : K.lookup f_named_items = some ⟨oc_named_items, od_named_items, .func (PySem.W.fnOf "named_items" "named_items" (defArgs s_named_items) (defBody s_named_items) (defScope s_named_items) .none kV_named_items dc_named_items pm_named_items an_named_items cd_named_items ct_named_items), sl_named_items⟩) (c_named_items : PySem.W.codeIn K cd_named_items "named_items" = true) (k_named_items : PySem.W.keepIn K (.ref f_named_items) = true)
    {f_played : Addr} {od_played an_played : Option Addr} {sl_played : Array (Option Value)} {oc_played kV_played dc_played pm_played cd_played ct_played : Value}
    (a_played : PySem.W.nsIn K mainGlobals "played" = some (some (.ref f_played))) (l_played : K.lookup f_played = some ⟨oc_played, od_played, .func (PySem.W.fnOf "played" "played" (defArgs s_played) (defBody s_played) (defScope s_played) .none kV_played dc_played pm_played an_played cd_played ct_played), sl_played⟩) (c_played : PySem.W.codeIn K cd_played "played" = true) (k_played : PySem.W.keepIn K (.ref f_played) = true)
    {f_fenced : Addr} {od_fenced an_fenced : Option Addr} {sl_fenced : Array (Option Value)} {oc_fenced kV_fenced dc_fenced pm_fenced cd_fenced ct_fenced : Value}
    (a_fenced : PySem.W.nsIn K mainGlobals "fenced" = some (some (.ref f_fenced))) (l_fenced : K.lookup f_fenced = some ⟨oc_fenced, od_fenced, .func (PySem.W.fnOf "fenced" "fenced" (defArgs s_fenced) (defBody s_fenced) (defScope s_fenced) .none kV_fenced dc_fenced pm_fenced an_fenced cd_fenced ct_fenced), sl_fenced⟩) (c_fenced : PySem.W.codeIn K cd_fenced "fenced" = true) (k_fenced : PySem.W.keepIn K (.ref f_fenced) = true)
    {f_between_fences : Addr} {od_between_fences an_between_fences : Option Addr} {sl_between_fences : Array (Option Value)} {oc_between_fences kV_between_fences dc_between_fences pm_between_fences cd_between_fences ct_between_fences : Value}
    (a_between_fences : PySem.W.nsIn K mainGlobals "between_fences" = some (some (.ref f_between_fences))) (l_between_fences : K.lookup f_between_fences = some ⟨oc_between_fences, od_between_fences, .func (PySem.W.fnOf "between_fences" "between_fences" (defArgs s_between_fences) (defBody s_between_fences) (defScope s_between_fences) .none kV_between_fences dc_between_fences pm_between_fences an_between_fences cd_between_fences ct_between_fences), sl_between_fences⟩) (c_between_fences : PySem.W.codeIn K cd_between_fences "between_fences" = true) (k_between_fences : PySem.W.keepIn K (.ref f_between_fences) = true)
    {f_effect_of : Addr} {od_effect_of an_effect_of : Option Addr} {sl_effect_of : Array (Option Value)} {oc_effect_of kV_effect_of dc_effect_of pm_effect_of cd_effect_of ct_effect_of : Value}
    (a_effect_of : PySem.W.nsIn K mainGlobals "effect_of" = some (some (.ref f_effect_of))) (l_effect_of : K.lookup f_effect_of = some ⟨oc_effect_of, od_effect_of, .func (PySem.W.fnOf "effect_of" "effect_of" (defArgs s_effect_of) (defBody s_effect_of) (defScope s_effect_of) .none kV_effect_of dc_effect_of pm_effect_of an_effect_of cd_effect_of ct_effect_of), sl_effect_of⟩) (c_effect_of : PySem.W.codeIn K cd_effect_of "effect_of" = true) (k_effect_of : PySem.W.keepIn K (.ref f_effect_of) = true)
    {f_is_effect : Addr} {od_is_effect an_is_effect : Option Addr} {sl_is_effect : Array (Option Value)} {oc_is_effect kV_is_effect dc_is_effect pm_is_effect cd_is_effect ct_is_effect : Value}
    (a_is_effect : PySem.W.nsIn K mainGlobals "is_effect" = some (some (.ref f_is_effect))) (l_is_effect : K.lookup f_is_effect = some ⟨oc_is_effect, od_is_effect, .func (PySem.W.fnOf "is_effect" "is_effect" (defArgs s_is_effect) (defBody s_is_effect) (defScope s_is_effect) .none kV_is_effect dc_is_effect pm_is_effect an_is_effect cd_is_effect ct_is_effect), sl_is_effect⟩) (c_is_effect : PySem.W.codeIn K cd_is_effect "is_effect" = true) (k_is_effect : PySem.W.keepIn K (.ref f_is_effect) = true)
    {f_require_effect : Addr} {od_require_effect an_require_effect : Option Addr} {sl_require_effect : Array (Option Value)} {oc_require_effect kV_require_effect dc_require_effect pm_require_effect cd_require_effect ct_require_effect : Value}
    (a_require_effect : PySem.W.nsIn K mainGlobals "require_effect" = some (some (.ref f_require_effect))) (l_require_effect : K.lookup f_require_effect = some ⟨oc_require_effect, od_require_effect, .func (PySem.W.fnOf "require_effect" "require_effect" (defArgs s_require_effect) (defBody s_require_effect) (defScope s_require_effect) .none kV_require_effect dc_require_effect pm_require_effect an_require_effect cd_require_effect ct_require_effect), sl_require_effect⟩) (c_require_effect : PySem.W.codeIn K cd_require_effect "require_effect" = true) (k_require_effect : PySem.W.keepIn K (.ref f_require_effect) = true)
    {f_has_possible_blocks : Addr} {od_has_possible_blocks an_has_possible_blocks : Option Addr} {sl_has_possible_blocks : Array (Option Value)} {oc_has_possible_blocks kV_has_possible_blocks dc_has_possible_blocks pm_has_possible_blocks cd_has_possible_blocks ct_has_possible_blocks : Value}
    (a_has_possible_blocks : PySem.W.nsIn K mainGlobals "has_possible_blocks" = some (some (.ref f_has_possible_blocks))) (l_has_possible_blocks : K.lookup f_has_possible_blocks = some ⟨oc_has_possible_blocks, od_has_possible_blocks, .func (PySem.W.fnOf "has_possible_blocks" "has_possible_blocks" (defArgs s_has_possible_blocks) (defBody s_has_possible_blocks) (defScope s_has_possible_blocks) .none kV_has_possible_blocks dc_has_possible_blocks pm_has_possible_blocks an_has_possible_blocks cd_has_possible_blocks ct_has_possible_blocks), sl_has_possible_blocks⟩) (c_has_possible_blocks : PySem.W.codeIn K cd_has_possible_blocks "has_possible_blocks" = true) (k_has_possible_blocks : PySem.W.keepIn K (.ref f_has_possible_blocks) = true)
    {f_is_possible : Addr} {od_is_possible an_is_possible : Option Addr} {sl_is_possible : Array (Option Value)} {oc_is_possible kV_is_possible dc_is_possible pm_is_possible cd_is_possible ct_is_possible : Value}
    (a_is_possible : PySem.W.nsIn K mainGlobals "is_possible" = some (some (.ref f_is_possible))) (l_is_possible : K.lookup f_is_possible = some ⟨oc_is_possible, od_is_possible, .func (PySem.W.fnOf "is_possible" "is_possible" (defArgs s_is_possible) (defBody s_is_possible) (defScope s_is_possible) .none kV_is_possible dc_is_possible pm_is_possible an_is_possible cd_is_possible ct_is_possible), sl_is_possible⟩) (c_is_possible : PySem.W.codeIn K cd_is_possible "is_possible" = true) (k_is_possible : PySem.W.keepIn K (.ref f_is_possible) = true)
    {f_has_effect : Addr} {od_has_effect an_has_effect : Option Addr} {sl_has_effect : Array (Option Value)} {oc_has_effect kV_has_effect dc_has_effect pm_has_effect cd_has_effect ct_has_effect : Value}
    (a_has_effect : PySem.W.nsIn K mainGlobals "has_effect" = some (some (.ref f_has_effect))) (l_has_effect : K.lookup f_has_effect = some ⟨oc_has_effect, od_has_effect, .func (PySem.W.fnOf "has_effect" "has_effect" (defArgs s_has_effect) (defBody s_has_effect) (defScope s_has_effect) .none kV_has_effect dc_has_effect pm_has_effect an_has_effect cd_has_effect ct_has_effect), sl_has_effect⟩) (c_has_effect : PySem.W.codeIn K cd_has_effect "has_effect" = true) (k_has_effect : PySem.W.keepIn K (.ref f_has_effect) = true)
    {f__law_jug : Addr} {od__law_jug an__law_jug : Option Addr} {sl__law_jug : Array (Option Value)} {oc__law_jug kV__law_jug dc__law_jug pm__law_jug cd__law_jug ct__law_jug : Value}
    (a__law_jug : PySem.W.nsIn K mainGlobals "_law_jug" = some (some (.ref f__law_jug))) (l__law_jug : K.lookup f__law_jug = some ⟨oc__law_jug, od__law_jug, .func (PySem.W.fnOf "_law_jug" "_law_jug" (defArgs s__law_jug) (defBody s__law_jug) (defScope s__law_jug) .none kV__law_jug dc__law_jug pm__law_jug an__law_jug cd__law_jug ct__law_jug), sl__law_jug⟩) (c__law_jug : PySem.W.codeIn K cd__law_jug "_law_jug" = true) (k__law_jug : PySem.W.keepIn K (.ref f__law_jug) = true)
    {f__law_drop : Addr} {od__law_drop an__law_drop : Option Addr} {sl__law_drop : Array (Option Value)} {oc__law_drop kV__law_drop dc__law_drop pm__law_drop cd__law_drop ct__law_drop : Value}
    (a__law_drop : PySem.W.nsIn K mainGlobals "_law_drop" = some (some (.ref f__law_drop))) (l__law_drop : K.lookup f__law_drop = some ⟨oc__law_drop, od__law_drop, .func (PySem.W.fnOf "_law_drop" "_law_drop" (defArgs s__law_drop) (defBody s__law_drop) (defScope s__law_drop) .none kV__law_drop dc__law_drop pm__law_drop an__law_drop cd__law_drop ct__law_drop), sl__law_drop⟩) (c__law_drop : PySem.W.codeIn K cd__law_drop "_law_drop" = true) (k__law_drop : PySem.W.keepIn K (.ref f__law_drop) = true)
    {f__law_stirred : Addr} {od__law_stirred an__law_stirred : Option Addr} {sl__law_stirred : Array (Option Value)} {oc__law_stirred kV__law_stirred dc__law_stirred pm__law_stirred cd__law_stirred ct__law_stirred : Value}
    (a__law_stirred : PySem.W.nsIn K mainGlobals "_law_stirred" = some (some (.ref f__law_stirred))) (l__law_stirred : K.lookup f__law_stirred = some ⟨oc__law_stirred, od__law_stirred, .func (PySem.W.fnOf "_law_stirred" "_law_stirred" (defArgs s__law_stirred) (defBody s__law_stirred) (defScope s__law_stirred) .none kV__law_stirred dc__law_stirred pm__law_stirred an__law_stirred cd__law_stirred ct__law_stirred), sl__law_stirred⟩) (c__law_stirred : PySem.W.codeIn K cd__law_stirred "_law_stirred" = true) (k__law_stirred : PySem.W.keepIn K (.ref f__law_stirred) = true)
    {f__law_script : Addr} {od__law_script an__law_script : Option Addr} {sl__law_script : Array (Option Value)} {oc__law_script kV__law_script dc__law_script pm__law_script cd__law_script ct__law_script : Value}
    (a__law_script : PySem.W.nsIn K mainGlobals "_law_script" = some (some (.ref f__law_script))) (l__law_script : K.lookup f__law_script = some ⟨oc__law_script, od__law_script, .func (PySem.W.fnOf "_law_script" "_law_script" (defArgs s__law_script) (defBody s__law_script) (defScope s__law_script) .none kV__law_script dc__law_script pm__law_script an__law_script cd__law_script ct__law_script), sl__law_script⟩) (c__law_script : PySem.W.codeIn K cd__law_script "_law_script" = true) (k__law_script : PySem.W.keepIn K (.ref f__law_script) = true)
    {f__law_blocks : Addr} {od__law_blocks an__law_blocks : Option Addr} {sl__law_blocks : Array (Option Value)} {oc__law_blocks kV__law_blocks dc__law_blocks pm__law_blocks cd__law_blocks ct__law_blocks : Value}
    (a__law_blocks : PySem.W.nsIn K mainGlobals "_law_blocks" = some (some (.ref f__law_blocks))) (l__law_blocks : K.lookup f__law_blocks = some ⟨oc__law_blocks, od__law_blocks, .func (PySem.W.fnOf "_law_blocks" "_law_blocks" (defArgs s__law_blocks) (defBody s__law_blocks) (defScope s__law_blocks) .none kV__law_blocks dc__law_blocks pm__law_blocks an__law_blocks cd__law_blocks ct__law_blocks), sl__law_blocks⟩) (c__law_blocks : PySem.W.codeIn K cd__law_blocks "_law_blocks" = true) (k__law_blocks : PySem.W.keepIn K (.ref f__law_blocks) = true)
    {f__law_effect : Addr} {od__law_effect an__law_effect : Option Addr} {sl__law_effect : Array (Option Value)} {oc__law_effect kV__law_effect dc__law_effect pm__law_effect cd__law_effect ct__law_effect : Value}
    (a__law_effect : PySem.W.nsIn K mainGlobals "_law_effect" = some (some (.ref f__law_effect))) (l__law_effect : K.lookup f__law_effect = some ⟨oc__law_effect, od__law_effect, .func (PySem.W.fnOf "_law_effect" "_law_effect" (defArgs s__law_effect) (defBody s__law_effect) (defScope s__law_effect) .none kV__law_effect dc__law_effect pm__law_effect an__law_effect cd__law_effect ct__law_effect), sl__law_effect⟩) (c__law_effect : PySem.W.codeIn K cd__law_effect "_law_effect" = true) (k__law_effect : PySem.W.keepIn K (.ref f__law_effect) = true)
    {f__law_possible : Addr} {od__law_possible an__law_possible : Option Addr} {sl__law_possible : Array (Option Value)} {oc__law_possible kV__law_possible dc__law_possible pm__law_possible cd__law_possible ct__law_possible : Value}
    (a__law_possible : PySem.W.nsIn K mainGlobals "_law_possible" = some (some (.ref f__law_possible))) (l__law_possible : K.lookup f__law_possible = some ⟨oc__law_possible, od__law_possible, .func (PySem.W.fnOf "_law_possible" "_law_possible" (defArgs s__law_possible) (defBody s__law_possible) (defScope s__law_possible) .none kV__law_possible dc__law_possible pm__law_possible an__law_possible cd__law_possible ct__law_possible), sl__law_possible⟩) (c__law_possible : PySem.W.codeIn K cd__law_possible "_law_possible" = true) (k__law_possible : PySem.W.keepIn K (.ref f__law_possible) = true)
    {f__law_changed : Addr} {od__law_changed an__law_changed : Option Addr} {sl__law_changed : Array (Option Value)} {oc__law_changed kV__law_changed dc__law_changed pm__law_changed cd__law_changed ct__law_changed : Value}
    (a__law_changed : PySem.W.nsIn K mainGlobals "_law_changed" = some (some (.ref f__law_changed))) (l__law_changed : K.lookup f__law_changed = some ⟨oc__law_changed, od__law_changed, .func (PySem.W.fnOf "_law_changed" "_law_changed" (defArgs s__law_changed) (defBody s__law_changed) (defScope s__law_changed) .none kV__law_changed dc__law_changed pm__law_changed an__law_changed cd__law_changed ct__law_changed), sl__law_changed⟩) (c__law_changed : PySem.W.codeIn K cd__law_changed "_law_changed" = true) (k__law_changed : PySem.W.keepIn K (.ref f__law_changed) = true)
    {f__law_script_right : Addr} {od__law_script_right an__law_script_right : Option Addr} {sl__law_script_right : Array (Option Value)} {oc__law_script_right kV__law_script_right dc__law_script_right pm__law_script_right cd__law_script_right ct__law_script_right : Value}
    (a__law_script_right : PySem.W.nsIn K mainGlobals "_law_script_right" = some (some (.ref f__law_script_right))) (l__law_script_right : K.lookup f__law_script_right = some ⟨oc__law_script_right, od__law_script_right, .func (PySem.W.fnOf "_law_script_right" "_law_script_right" (defArgs s__law_script_right) (defBody s__law_script_right) (defScope s__law_script_right) .none kV__law_script_right dc__law_script_right pm__law_script_right an__law_script_right cd__law_script_right ct__law_script_right), sl__law_script_right⟩) (c__law_script_right : PySem.W.codeIn K cd__law_script_right "_law_script_right" = true) (k__law_script_right : PySem.W.keepIn K (.ref f__law_script_right) = true)
    {f_law : Addr} {od_law an_law : Option Addr} {sl_law : Array (Option Value)} {oc_law kV_law dc_law pm_law cd_law ct_law : Value}
    (a_law : PySem.W.nsIn K mainGlobals "law" = some (some (.ref f_law))) (l_law : K.lookup f_law = some ⟨oc_law, od_law, .func (PySem.W.fnOf "law" "law" (defArgs s_law) (defBody s_law) (defScope s_law) .none kV_law dc_law pm_law an_law cd_law ct_law), sl_law⟩) (c_law : PySem.W.codeIn K cd_law "law" = true) (k_law : PySem.W.keepIn K (.ref f_law) = true)
    {t_MOST_ITEMS : Tok} (a_MOST_ITEMS : PySem.W.nsIn K mainGlobals "MOST_ITEMS" = some (some (.int 60 t_MOST_ITEMS)))
    {t_MOST_COMMANDS : Tok} (a_MOST_COMMANDS : PySem.W.nsIn K mainGlobals "MOST_COMMANDS" = some (some (.int 200 t_MOST_COMMANDS)))
    {t_FENCE : Tok} (a_FENCE : PySem.W.nsIn K mainGlobals "FENCE" = some (some (.int (-1) t_FENCE)))
    {q_WORDS : Addr} {o_WORDS : Obj} {i_WORDS : Array Value} {n_WORDS : Nat} (a_WORDS : PySem.W.nsIn K mainGlobals "WORDS" = some (some (.ref q_WORDS))) (l_WORDS : K.lookup q_WORDS = some o_WORDS) (x_WORDS : o_WORDS.cls = .type "tuple") (y_WORDS : o_WORDS.data = .seq i_WORDS n_WORDS) (u_WORDS : i_WORDS.size ≤ sizeLine) (v_WORDS : i_WORDS.toList.map absV = [some (.str "behind"), some (.str "before")])
    (z_isinstance : PySem.W.nsIn K mainGlobals "isinstance" = some none)
    (z_int : PySem.W.nsIn K mainGlobals "int" = some none)
    (z_bool : PySem.W.nsIn K mainGlobals "bool" = some none)
    (z_tuple : PySem.W.nsIn K mainGlobals "tuple" = some none)
    (z_str : PySem.W.nsIn K mainGlobals "str" = some none)
    (z_len : PySem.W.nsIn K mainGlobals "len" = some none)
    (z_all : PySem.W.nsIn K mainGlobals "all" = some none)
    (z_any : PySem.W.nsIn K mainGlobals "any" = some none)
    (z_sorted : PySem.W.nsIn K mainGlobals "sorted" = some none)
    (z_list : PySem.W.nsIn K mainGlobals "list" = some none)
    (z_range : PySem.W.nsIn K mainGlobals "range" = some none)
    (z_max : PySem.W.nsIn K mainGlobals "max" = some none)
    (z_min : PySem.W.nsIn K mainGlobals "min" = some none)
    (z_zip : PySem.W.nsIn K mainGlobals "zip" = some none)
    (z_set : PySem.W.nsIn K mainGlobals "set" = some none)
    (z_dict : PySem.W.nsIn K mainGlobals "dict" = some none)
    (z_enumerate : PySem.W.nsIn K mainGlobals "enumerate" = some none)
    (z_repr : PySem.W.nsIn K mainGlobals "repr" = some none) :
    ∃ fd : FuncData, (∀ (s : Shared) (v : Value), BindsTo s fd ⟨[v], []⟩ [("script", v)]) ∧ ∀ base : Heap, K.In base → base.Ns mainGlobals mg → FnG P w K mg base 8 fa fd ["script"] (lawS K) := by
  have e := hfa.symm.trans (PySem.W.mg_of X G a_law)
  cases e
  have F_is_within := fun_mk (st := s_is_within) l_is_within c_is_within k_is_within
  have D_is_within := df_is_within F_is_within (PySem.W.mg_of X G a_is_within)
  have F_is_item := fun_mk (st := s_is_item) l_is_item c_is_item k_is_item
  have D_is_item := df_is_item F_is_item (PySem.W.mg_of X G a_is_item)
  have F_is_command := fun_mk (st := s_is_command) l_is_command c_is_command k_is_command
  have D_is_command := df_is_command F_is_command (PySem.W.mg_of X G a_is_command)
  have F_is_script := fun_mk (st := s_is_script) l_is_script c_is_script k_is_script
  have D_is_script := df_is_script F_is_script (PySem.W.mg_of X G a_is_script)
  have F_require_script := fun_mk (st := s_require_script) l_require_script c_require_script k_require_script
  have D_require_script := df_require_script F_require_script (PySem.W.mg_of X G a_require_script)
  have F_named_items := fun_mk (st := s_named_items) l_named_items c_named_items k_named_items
  have D_named_items := df_named_items F_named_items (PySem.W.mg_of X G a_named_items)
  have F_played := fun_mk (st := s_played) l_played c_played k_played
  have D_played := df_played F_played (PySem.W.mg_of X G a_played)
  have F_fenced := fun_mk (st := s_fenced) l_fenced c_fenced k_fenced
  have D_fenced := df_fenced F_fenced (PySem.W.mg_of X G a_fenced)
  have F_between_fences := fun_mk (st := s_between_fences) l_between_fences c_between_fences k_between_fences
  have D_between_fences := df_between_fences F_between_fences (PySem.W.mg_of X G a_between_fences)
  have F_effect_of := fun_mk (st := s_effect_of) l_effect_of c_effect_of k_effect_of
  have D_effect_of := df_effect_of F_effect_of (PySem.W.mg_of X G a_effect_of)
  have F_is_effect := fun_mk (st := s_is_effect) l_is_effect c_is_effect k_is_effect
  have D_is_effect := df_is_effect F_is_effect (PySem.W.mg_of X G a_is_effect)
  have F_require_effect := fun_mk (st := s_require_effect) l_require_effect c_require_effect k_require_effect
  have D_require_effect := df_require_effect F_require_effect (PySem.W.mg_of X G a_require_effect)
  have F_has_possible_blocks := fun_mk (st := s_has_possible_blocks) l_has_possible_blocks c_has_possible_blocks k_has_possible_blocks
  have D_has_possible_blocks := df_has_possible_blocks F_has_possible_blocks (PySem.W.mg_of X G a_has_possible_blocks)
  have F_is_possible := fun_mk (st := s_is_possible) l_is_possible c_is_possible k_is_possible
  have D_is_possible := df_is_possible F_is_possible (PySem.W.mg_of X G a_is_possible)
  have F_has_effect := fun_mk (st := s_has_effect) l_has_effect c_has_effect k_has_effect
  have D_has_effect := df_has_effect F_has_effect (PySem.W.mg_of X G a_has_effect)
  have F__law_jug := fun_mk (st := s__law_jug) l__law_jug c__law_jug k__law_jug
  have D__law_jug := df__law_jug F__law_jug (PySem.W.mg_of X G a__law_jug)
  have F__law_drop := fun_mk (st := s__law_drop) l__law_drop c__law_drop k__law_drop
  have D__law_drop := df__law_drop F__law_drop (PySem.W.mg_of X G a__law_drop)
  have F__law_stirred := fun_mk (st := s__law_stirred) l__law_stirred c__law_stirred k__law_stirred
  have D__law_stirred := df__law_stirred F__law_stirred (PySem.W.mg_of X G a__law_stirred)
  have F__law_script := fun_mk (st := s__law_script) l__law_script c__law_script k__law_script
  have D__law_script := df__law_script F__law_script (PySem.W.mg_of X G a__law_script)
  have F__law_blocks := fun_mk (st := s__law_blocks) l__law_blocks c__law_blocks k__law_blocks
  have D__law_blocks := df__law_blocks F__law_blocks (PySem.W.mg_of X G a__law_blocks)
  have F__law_effect := fun_mk (st := s__law_effect) l__law_effect c__law_effect k__law_effect
  have D__law_effect := df__law_effect F__law_effect (PySem.W.mg_of X G a__law_effect)
  have F__law_possible := fun_mk (st := s__law_possible) l__law_possible c__law_possible k__law_possible
  have D__law_possible := df__law_possible F__law_possible (PySem.W.mg_of X G a__law_possible)
  have F__law_changed := fun_mk (st := s__law_changed) l__law_changed c__law_changed k__law_changed
  have D__law_changed := df__law_changed F__law_changed (PySem.W.mg_of X G a__law_changed)
  have F__law_script_right := fun_mk (st := s__law_script_right) l__law_script_right c__law_script_right k__law_script_right
  have D__law_script_right := df__law_script_right F__law_script_right (PySem.W.mg_of X G a__law_script_right)
  have F_law := fun_mk (st := s_law) l_law c_law k_law
  have y_isinstance := PySem.W.mg_none_of X G z_isinstance
  have y_int := PySem.W.mg_none_of X G z_int
  have y_bool := PySem.W.mg_none_of X G z_bool
  have y_tuple := PySem.W.mg_none_of X G z_tuple
  have y_str := PySem.W.mg_none_of X G z_str
  have y_len := PySem.W.mg_none_of X G z_len
  have y_all := PySem.W.mg_none_of X G z_all
  have y_any := PySem.W.mg_none_of X G z_any
  have y_sorted := PySem.W.mg_none_of X G z_sorted
  have y_list := PySem.W.mg_none_of X G z_list
  have y_range := PySem.W.mg_none_of X G z_range
  have y_max := PySem.W.mg_none_of X G z_max
  have y_min := PySem.W.mg_none_of X G z_min
  have y_zip := PySem.W.mg_none_of X G z_zip
  have y_set := PySem.W.mg_none_of X G z_set
  have y_dict := PySem.W.mg_none_of X G z_dict
  have y_enumerate := PySem.W.mg_none_of X G z_enumerate
  have y_repr := PySem.W.mg_none_of X G z_repr
  have g_MOST_ITEMS := PySem.W.mg_of X G a_MOST_ITEMS
  have g_MOST_COMMANDS := PySem.W.mg_of X G a_MOST_COMMANDS
  have g_FENCE := PySem.W.mg_of X G a_FENCE
  have g_WORDS := PySem.W.mg_of X G a_WORDS
  refine ⟨PySem.W.fnOf "law" "law" (defArgs s_law) (defBody s_law) (defScope s_law) .none kV_law dc_law pm_law an_law cd_law ct_law, fun s v => .of_eq rfl, fun base _ _ => ?_⟩
  have hW : ∀ H, SqT K H q_WORDS [.str "behind", .str "before"] := fun H => .inr ⟨o_WORDS, i_WORDS, n_WORDS, l_WORDS, x_WORDS, y_WORDS, u_WORDS, words_vals v_WORDS⟩
  have C_within := ok_is_within (P := P) (w := w) (base := base) D_is_within y_isinstance y_int y_bool
  have C_is_item := ok_is_item1 (base := base) (P := P) (w := w) (z := fun _ _ _ _ => True) (ok_is_item D_is_item C_within g_MOST_ITEMS)
  have C_is_command := ok_is_command D_is_command C_is_item y_isinstance y_tuple y_len y_str g_WORDS hW
  have C_is_script := ok_is_script D_is_script C_is_command y_isinstance y_tuple y_len y_all g_MOST_COMMANDS
  have C_rscript := ok_require_script D_require_script C_is_script
  have C_named_items := ok_named_items (P := P) (w := w) (base := base) D_named_items y_sorted
  have C_played := ok_played (P := P) (w := w) (base := base) D_played y_list
  have C_fenced := ok_fenced (P := P) (w := w) (base := base) D_fenced g_FENCE
  have C_between := ok_between_fences (P := P) (w := w) (base := base) D_between_fences y_tuple g_FENCE
  have C_effect := ok_effect_of D_effect_of C_named_items C_played C_fenced C_between y_zip
  have C_iseff := ok_is_effect D_is_effect C_is_item y_isinstance y_dict y_len y_tuple y_all y_list y_sorted g_MOST_ITEMS
  have C_reff := ok_require_effect D_require_effect C_iseff
  have C_hpb := ok_has_possible_blocks (P := P) (w := w) (base := base) D_has_possible_blocks y_any y_all
  have C_pos := ok_is_possible D_is_possible C_reff C_hpb
  have C_has := ok_has_effect D_has_effect C_rscript C_reff C_effect y_all
  have C_jug := ok_law_jug (P := P) (w := w) (base := base) D__law_jug y_max y_len
  have C_drop := ok_law_drop (P := P) (w := w) (base := base) D__law_drop
  have C_stirred := ok_law_stirred D__law_stirred C_drop y_list y_range y_len
  have C_script := ok_law_script D__law_script C_drop y_int y_range y_len y_min y_tuple
  have C_blocks := ok_law_blocks (P := P) (w := w) (base := base) D__law_blocks y_dict y_tuple y_int
  have C_lpos := ok_law_possible (P := P) (w := w) (base := base) D__law_possible y_len
  have C_changed := ok_law_changed D__law_changed C_drop y_dict y_list y_len
  have C_leff := ok_law_effect D__law_effect C_drop C_stirred y_max y_min y_zip y_len y_list y_range y_tuple y_enumerate y_dict
  have C_sright := ok_law_script_right D__law_script_right C_script C_blocks C_drop C_has C_changed C_pos C_lpos y_sorted y_set y_repr y_range y_list y_dict
  exact ok_law F_law C_jug C_drop C_stirred C_leff C_changed C_pos C_lpos C_has C_sright y_range y_len y_max y_min y_list y_int y_repr y_dict
end K34
open PySem PySem.W PyProof.Rows
set_option maxHeartbeats 0 in
theorem PySem.Challenge.cw_moveafter_k34_effects_judged_holds : PySem.Challenge.rw_moveafter_k34_effects_judged.Holds := by
  w_on; o_law; k_head; (case hw => w_witness2)
  k_fill
  refine MA.walk_ofG (l := PySem.Challenge.rw_moveafter_k34_effects_judged) (n := 63) (k := 8) (x := "script") (sp := fun w => K34.lawS _) rfl (by decide) rfl ⟨rfl, by decide, by decide⟩ (fun w h Y => PySem.W.kIn_of Y) ?F (fun _ _ a ns hl _ hS => ⟨a, ns, rfl, Nat.le_trans hl (by decide), hS, fun _ => rfl⟩)
  case F =>
    intro w mg fa h KX G hmg
    refine' K34.all_mk KX G hmg ?a_is_within ?l_is_within ?c_is_within ?k_is_within ?a_is_item ?l_is_item ?c_is_item ?k_is_item ?a_is_command ?l_is_command ?c_is_command ?k_is_command ?a_is_script ?l_is_script ?c_is_script ?k_is_script ?a_require_script ?l_require_script ?c_require_script ?k_require_script ?a_named_items ?l_named_items ?c_named_items ?k_named_items ?a_played ?l_played ?c_played ?k_played ?a_fenced ?l_fenced ?c_fenced ?k_fenced ?a_between_fences ?l_between_fences ?c_between_fences ?k_between_fences ?a_effect_of ?l_effect_of ?c_effect_of ?k_effect_of ?a_is_effect ?l_is_effect ?c_is_effect ?k_is_effect ?a_require_effect ?l_require_effect ?c_require_effect ?k_require_effect ?a_has_possible_blocks ?l_has_possible_blocks ?c_has_possible_blocks ?k_has_possible_blocks ?a_is_possible ?l_is_possible ?c_is_possible ?k_is_possible ?a_has_effect ?l_has_effect ?c_has_effect ?k_has_effect ?a__law_jug ?l__law_jug ?c__law_jug ?k__law_jug ?a__law_drop ?l__law_drop ?c__law_drop ?k__law_drop ?a__law_stirred ?l__law_stirred ?c__law_stirred ?k__law_stirred ?a__law_script ?l__law_script ?c__law_script ?k__law_script ?a__law_blocks ?l__law_blocks ?c__law_blocks ?k__law_blocks ?a__law_effect ?l__law_effect ?c__law_effect ?k__law_effect ?a__law_possible ?l__law_possible ?c__law_possible ?k__law_possible ?a__law_changed ?l__law_changed ?c__law_changed ?k__law_changed ?a__law_script_right ?l__law_script_right ?c__law_script_right ?k__law_script_right ?a_law ?l_law ?c_law ?k_law ?a_MOST_ITEMS ?a_MOST_COMMANDS ?a_FENCE ?a_WORDS ?l_WORDS ?x_WORDS ?y_WORDS ?u_WORDS ?v_WORDS ?z_isinstance ?z_int ?z_bool ?z_tuple ?z_str ?z_len ?z_all ?z_any ?z_sorted ?z_list ?z_range ?z_max ?z_min ?z_zip ?z_set ?z_dict ?z_enumerate ?z_repr
    (case a_is_within => k_is)
    (case l_is_within => k_is)
    (case c_is_within => k_is)
    (case k_is_within => k_is)
    (case a_is_item => k_is)
    (case l_is_item => k_is)
    (case c_is_item => k_is)
    (case k_is_item => k_is)
    (case a_is_command => k_is)
    (case l_is_command => k_is)
    (case c_is_command => k_is)
    (case k_is_command => k_is)
    (case a_is_script => k_is)
    (case l_is_script => k_is)
    (case c_is_script => k_is)
    (case k_is_script => k_is)
    (case a_require_script => k_is)
    (case l_require_script => k_is)
    (case c_require_script => k_is)
    (case k_require_script => k_is)
    (case a_named_items => k_is)
    (case l_named_items => k_is)
    (case c_named_items => k_is)
    (case k_named_items => k_is)
    (case a_played => k_is)
    (case l_played => k_is)
    (case c_played => k_is)
    (case k_played => k_is)
    (case a_fenced => k_is)
    (case l_fenced => k_is)
    (case c_fenced => k_is)
    (case k_fenced => k_is)
    (case a_between_fences => k_is)
    (case l_between_fences => k_is)
    (case c_between_fences => k_is)
    (case k_between_fences => k_is)
    (case a_effect_of => k_is)
    (case l_effect_of => k_is)
    (case c_effect_of => k_is)
    (case k_effect_of => k_is)
    (case a_is_effect => k_is)
    (case l_is_effect => k_is)
    (case c_is_effect => k_is)
    (case k_is_effect => k_is)
    (case a_require_effect => k_is)
    (case l_require_effect => k_is)
    (case c_require_effect => k_is)
    (case k_require_effect => k_is)
    (case a_has_possible_blocks => k_is)
    (case l_has_possible_blocks => k_is)
    (case c_has_possible_blocks => k_is)
    (case k_has_possible_blocks => k_is)
    (case a_is_possible => k_is)
    (case l_is_possible => k_is)
    (case c_is_possible => k_is)
    (case k_is_possible => k_is)
    (case a_has_effect => k_is)
    (case l_has_effect => k_is)
    (case c_has_effect => k_is)
    (case k_has_effect => k_is)
    (case a__law_jug => k_is)
    (case l__law_jug => k_is)
    (case c__law_jug => k_is)
    (case k__law_jug => k_is)
    (case a__law_drop => k_is)
    (case l__law_drop => k_is)
    (case c__law_drop => k_is)
    (case k__law_drop => k_is)
    (case a__law_stirred => k_is)
    (case l__law_stirred => k_is)
    (case c__law_stirred => k_is)
    (case k__law_stirred => k_is)
    (case a__law_script => k_is)
    (case l__law_script => k_is)
    (case c__law_script => k_is)
    (case k__law_script => k_is)
    (case a__law_blocks => k_is)
    (case l__law_blocks => k_is)
    (case c__law_blocks => k_is)
    (case k__law_blocks => k_is)
    (case a__law_effect => k_is)
    (case l__law_effect => k_is)
    (case c__law_effect => k_is)
    (case k__law_effect => k_is)
    (case a__law_possible => k_is)
    (case l__law_possible => k_is)
    (case c__law_possible => k_is)
    (case k__law_possible => k_is)
    (case a__law_changed => k_is)
    (case l__law_changed => k_is)
    (case c__law_changed => k_is)
    (case k__law_changed => k_is)
    (case a__law_script_right => k_is)
    (case l__law_script_right => k_is)
    (case c__law_script_right => k_is)
    (case k__law_script_right => k_is)
    (case a_law => k_is)
    (case l_law => k_is)
    (case c_law => k_is)
    (case k_law => k_is)
    (case a_MOST_ITEMS => k_is)
    (case a_MOST_COMMANDS => k_is)
    (case a_FENCE => k_is)
    (case a_WORDS => k_is)
    (case l_WORDS => k_is)
    (case x_WORDS => first | rfl | decide +kernel | k_is)
    (case y_WORDS => first | rfl | decide +kernel | k_is)
    (case u_WORDS => first | rfl | decide +kernel | k_is)
    (case v_WORDS => first | rfl | decide +kernel | k_is)
    (case z_isinstance => k_is)
    (case z_int => k_is)
    (case z_bool => k_is)
    (case z_tuple => k_is)
    (case z_str => k_is)
    (case z_len => k_is)
    (case z_all => k_is)
    (case z_any => k_is)
    (case z_sorted => k_is)
    (case z_list => k_is)
    (case z_range => k_is)
    (case z_max => k_is)
    (case z_min => k_is)
    (case z_zip => k_is)
    (case z_set => k_is)
    (case z_dict => k_is)
    (case z_enumerate => k_is)
    (case z_repr => k_is)

