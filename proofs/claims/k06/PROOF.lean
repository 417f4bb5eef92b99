import PyProof.Rows.All
import Wide.All
import OpenK.AllK
import Wide.FinOn
import HandS.ForMost
import HandS.Flow
import HandS.Deep
import HandS.TupAny
import HandS.Wide
import HandS.IsInst
import HandS.Conv
import HandS.RaiseMore
import HandS.TupLe
import HandS.Zip
import HandS.Strs
import HandS.SetFor
import HandS.TupSets
import HandS.Dict
import HandS.Iter
import HandS.ReplaceLit
import HandS.ReplaceDef
import HandS.NoneIn
import KE.SortData
import KE.GoesEnum
import PySem.Challenge.RW_rowveil_k06_what_is_a_condition
set_option Elab.async false
set_option linter.all false
set_option maxRecDepth 100000
namespace Rv
open PySem L2
/-! The data layer, part 1: data that are read off the heap, and what an owned list may change. -/

/-- a mirror's slots -/
abbrev En := List (Option PyData)

/-- what H tracks, later tracks too, unchanged -/
def Ex (H later : Hp) : Prop := ∀ (p : Addr) (thing : HO), H p = some thing → later p = some thing
theorem Ex.refl (H : Hp) : Ex H H := fun _ _ q => q
theorem Ex.trans {H1 H2 H3 : Hp} (f : Ex H1 H2) (g : Ex H2 H3) : Ex H1 H3 := fun p thing q => g p thing (f p thing q)
theorem Ex.new {H : Hp} {fresh : Addr} {thing : HO} (none_there : H fresh = none) : Ex H (upd H fresh thing) := fun p other q => by
  rw [upd_ne (ne_of_none q none_there)]
  exact q
theorem Ex.free {H H' : Hp} {p : Addr} (e : Ex H H') (h : H' p = none) : H p = none := by
  cases h1 : H p with
  | none => rfl
  | some o =>
    rw [e p o h1] at h
    cases h
theorem Ex.rd {H H' : Hp} {a : Addr} {u : HO} (e : Ex H H') (h : Rd H a u) : Rd H' a u := by
  rcases h with h | ⟨o, h⟩
  · exact .inl (e _ _ h)
  · exact .inr ⟨o, e _ _ h⟩
theorem Ex.sl {K : PySem.W.Frag} {H H' : Hp} {a : Addr} {xs : List V} (e : Ex H H') (h : SqL K H a xs) : SqL K H' a xs := by
  rcases h with h | h
  · exact .inl (e.rd h)
  · exact .inr h
theorem Ex.st {K : PySem.W.Frag} {H H' : Hp} {a : Addr} {xs : List V} (e : Ex H H') (h : SqT K H a xs) : SqT K H' a xs := by
  rcases h with h | h
  · exact .inl (e.rd h)
  · exact .inr h

section
variable {K : PySem.W.Frag} {H H' : Hp}
mutual
theorem dp_ex (e : Ex H H') : ∀ {v : V} {d : PyData}, Dp K H v d → Dp K H' v d
  | _, _, .non => .non
  | _, _, .bl b => .bl b
  | _, _, .int i => .int i
  | _, _, .str x => .str x
  | _, _, .lst h a => .lst (e.sl h) (dpAll_ex e a)
  | _, _, .tup h a => .tup (e.st h) (dpAll_ex e a)
theorem dpAll_ex (e : Ex H H') : ∀ {vs : List V} {ds : List PyData}, DpAll K H vs ds → DpAll K H' vs ds
  | _, _, .nil => .nil
  | _, _, .cons h a => .cons (dp_ex e h) (dpAll_ex e a)
end
theorem dpAll_len : ∀ {vs : List V} {ds : List PyData}, DpAll K H vs ds → vs.length = ds.length
  | _, _, .nil => rfl
  | _, _, .cons _ a => by rw [List.length_cons, List.length_cons, dpAll_len a]
theorem dpAll_get : ∀ {vs : List V} {ds : List PyData} {i : Nat} {v : V}, DpAll K H vs ds → vs[i]? = some v → ∃ d, ds[i]? = some d ∧ Dp K H v d
  | _, _, _, _, .nil, h => by simp at h
  | _, _, 0, _, .cons h _, e => by
    obtain rfl := Option.some.inj ((List.getElem?_cons_zero ..).symm.trans e)
    exact ⟨_, rfl, h⟩
  | _, _, i + 1, v, .cons _ a, e => by
    obtain ⟨d, h1, h2⟩ := dpAll_get (i := i) (v := v) a (by simpa using e)
    exact ⟨d, by simpa using h1, h2⟩
theorem dpAll_get' : ∀ {vs : List V} {ds : List PyData} {i : Nat} {d : PyData}, DpAll K H vs ds → ds[i]? = some d → ∃ v, vs[i]? = some v ∧ Dp K H v d
  | _, _, _, _, .nil, h => by simp at h
  | _, _, 0, _, .cons h _, e => by
    obtain rfl := Option.some.inj ((List.getElem?_cons_zero ..).symm.trans e)
    exact ⟨_, rfl, h⟩
  | _, _, i + 1, v, .cons _ a, e => by
    obtain ⟨d, h1, h2⟩ := dpAll_get' (i := i) (d := v) a (by simpa using e)
    exact ⟨d, by simpa using h1, h2⟩
theorem dpAll_app : ∀ {vs ws : List V} {ds es : List PyData}, DpAll K H vs ds → DpAll K H ws es → DpAll K H (vs ++ ws) (ds ++ es)
  | _, _, _, _, .nil, b => b
  | _, _, _, _, .cons h a, b => .cons h (dpAll_app a b)
theorem dpAll_take : ∀ {vs : List V} {ds : List PyData} (n : Nat), DpAll K H vs ds → DpAll K H (vs.take n) (ds.take n)
  | _, _, 0, _ => .nil
  | _, _, _ + 1, .nil => .nil
  | _, _, n + 1, .cons h a => .cons h (dpAll_take n a)
theorem dpAll_drop : ∀ {vs : List V} {ds : List PyData} (n : Nat), DpAll K H vs ds → DpAll K H (vs.drop n) (ds.drop n)
  | _, _, 0, a => a
  | _, _, _ + 1, .nil => .nil
  | _, _, n + 1, .cons _ a => dpAll_drop n a
theorem dpAll_set : ∀ {vs : List V} {ds : List PyData} (n : Nat) {v : V} {d : PyData}, DpAll K H vs ds → Dp K H v d → DpAll K H (vs.set n v) (ds.set n d)
  | _, _, _, _, _, .nil, _ => .nil
  | _, _, 0, _, _, .cons _ a, b => .cons b a
  | _, _, n + 1, _, _, .cons h a, b => .cons h (dpAll_set n a b)
theorem dpAll_rep : ∀ {vs : List V} {ds : List PyData} (n : Nat), DpAll K H vs ds → DpAll K H (List.replicate n vs).flatten (List.replicate n ds).flatten
  | _, _, 0, _ => .nil
  | _, _, n + 1, a => by
    simp only [List.replicate_succ, List.flatten_cons]
    exact dpAll_app a (dpAll_rep n a)
theorem dpAll_ints : ∀ {vs : List V} {ns : List Int}, DpAll K H vs (ns.map PyData.int) → vs = ns.map V.int
  | _, [], h => by
    have h' : DpAll K H _ [] := h
    cases h'
    rfl
  | _, n :: ns, h => by
    have h' : DpAll K H _ (PyData.int n :: ns.map PyData.int) := h
    cases h' with
    | cons h1 h2 =>
      cases h1
      rw [dpAll_ints h2]
      rfl
theorem dpAll_of_ints : ∀ (ns : List Int), DpAll K H (ns.map V.int) (ns.map PyData.int)
  | [] => .nil
  | n :: ns => .cons (.int n) (dpAll_of_ints ns)
theorem dpAll_bools : ∀ {vs : List V} {bs : List Bool}, DpAll K H vs (bs.map PyData.bool) → vs = bs.map V.bl
  | _, [], h => by
    have h' : DpAll K H _ [] := h
    cases h'
    rfl
  | _, n :: ns, h => by
    have h' : DpAll K H _ (PyData.bool n :: ns.map PyData.bool) := h
    cases h' with
    | cons h1 h2 =>
      cases h1
      rw [dpAll_bools h2]
      rfl
theorem dpAll_strs : ∀ {vs : List V} {ns : List Str}, DpAll K H vs (ns.map PyData.str) → vs = ns.map V.str
  | _, [], h => by
    have h' : DpAll K H _ [] := h
    cases h'
    rfl
  | _, n :: ns, h => by
    have h' : DpAll K H _ (PyData.str n :: ns.map PyData.str) := h
    cases h' with
    | cons h1 h2 =>
      cases h1
      rw [dpAll_strs h2]
      rfl
theorem dpAll_of_strs : ∀ (ns : List Str), DpAll K H (ns.map V.str) (ns.map PyData.str)
  | [] => .nil
  | n :: ns => .cons (.str n) (dpAll_of_strs ns)
end

/-! ### the heap without the owned -/
def cut (H : Hp) (O : List Addr) : Hp := fun a => if a ∈ O then none else H a
theorem cut_in {H : Hp} {O : List Addr} {a : Addr} (h : a ∈ O) : cut H O a = none := if_pos h
theorem cut_out {H : Hp} {O : List Addr} {a : Addr} (h : a ∉ O) : cut H O a = H a := if_neg h
theorem cut_ex {H : Hp} {O : List Addr} : Ex (cut H O) H := fun a o e => by
  by_cases h : a ∈ O
  · rw [cut_in h] at e
    cases e
  · rw [cut_out h] at e
    exact e
theorem cut_mono {H H' : Hp} {O : List Addr} (e : Ex H H') : Ex (cut H O) (cut H' O) := fun a o q => by
  by_cases h : a ∈ O
  · rw [cut_in h] at q
    cases q
  · rw [cut_out h] at q ⊢
    exact e a o q
theorem cut_less {H : Hp} {O O' : List Addr} (s : ∀ a ∈ O', a ∈ O) : Ex (cut H O) (cut H O') := fun a o q => by
  by_cases h : a ∈ O
  · rw [cut_in h] at q
    cases q
  · rw [cut_out h] at q
    rw [cut_out fun z => h (s a z)]
    exact q
/-- a new object beside the owned ones -/
theorem cut_new {H : Hp} {O : List Addr} {p : Addr} {o : HO} (ht : ∀ l ∈ O, ∃ u, H l = some u) (hp : H p = none) : cut (upd H p o) O p = some o := by
  have h : p ∉ O := fun z => by
    obtain ⟨u, e⟩ := ht p z
    rw [e] at hp
    cases hp
  rw [cut_out h, upd_same]
/-- a value that lies outside the owned, or an owned list whose items do -/
def Dq (K : PySem.W.Frag) (H : Hp) (O : List Addr) (v : V) (d : PyData) : Prop :=
  Dp K (cut H O) v d ∨ ∃ l xs ds, v = .ref l ∧ H l = some (.lst xs) ∧ d = .list ds ∧ DpAll K (cut H O) xs ds
theorem Dq.dp {K : PySem.W.Frag} {H : Hp} {O : List Addr} {v : V} {d : PyData} (h : Dq K H O v d) : Dp K H v d := by
  rcases h with h | ⟨l, xs, ds, rfl, hl, rfl, ha⟩
  · exact dp_ex cut_ex h
  · exact .lst (.inl (.inl hl)) (dpAll_ex cut_ex ha)
theorem Dq.ex {K : PySem.W.Frag} {H H' : Hp} {O : List Addr} {v : V} {d : PyData} (e : Ex H H') (h : Dq K H O v d) : Dq K H' O v d := by
  rcases h with h | ⟨l, xs, ds, rfl, hl, rfl, ha⟩
  · exact .inl (dp_ex (cut_mono e) h)
  · exact .inr ⟨l, xs, ds, rfl, e _ _ hl, rfl, dpAll_ex (cut_mono e) ha⟩
/-- the items of a list -/
theorem Dq.list {K : PySem.W.Frag} {H : Hp} {O : List Addr} {v : V} {ds : List PyData} (h : Dq K H O v (.list ds)) : ∃ a xs, v = .ref a ∧ SqL K H a xs ∧ DpAll K (cut H O) xs ds := by
  rcases h with h | ⟨l, xs, es, rfl, hl, he, ha⟩
  · cases h with
    | lst hs ha => exact ⟨_, _, rfl, cut_ex.sl hs, ha⟩
  · cases he
    exact ⟨l, xs, rfl, .inl (.inl hl), ha⟩
theorem Dq.tuple {K : PySem.W.Frag} {H : Hp} {O : List Addr} {v : V} {ds : List PyData} (h : Dq K H O v (.tuple ds)) : ∃ a xs, v = .ref a ∧ SqT K H a xs ∧ DpAll K (cut H O) xs ds ∧ SqT K (cut H O) a xs := by
  rcases h with h | ⟨l, xs, es, rfl, hl, he, ha⟩
  · cases h with
    | tup hs ha => exact ⟨_, _, rfl, cut_ex.st hs, ha, hs⟩
  · cases he
theorem Dq.int {K : PySem.W.Frag} {H : Hp} {O : List Addr} {v : V} {i : Int} (h : Dq K H O v (.int i)) : v = .int i := by
  rcases h with h | ⟨l, xs, es, rfl, hl, he, ha⟩
  · cases h
    rfl
  · cases he
theorem Dq.bool {K : PySem.W.Frag} {H : Hp} {O : List Addr} {v : V} {b : Bool} (h : Dq K H O v (.bool b)) : v = .bl b := by
  rcases h with h | ⟨l, xs, es, rfl, hl, he, ha⟩
  · cases h
    rfl
  · cases he
theorem Dq.str {K : PySem.W.Frag} {H : Hp} {O : List Addr} {v : V} {x : Str} (h : Dq K H O v (.str x)) : v = .str x := by
  rcases h with h | ⟨l, xs, es, rfl, hl, he, ha⟩
  · cases h
    rfl
  · cases he
theorem Dq.none {K : PySem.W.Frag} {H : Hp} {O : List Addr} {v : V} (h : Dq K H O v .none) : v = .non := by
  rcases h with h | ⟨l, xs, es, rfl, hl, he, ha⟩
  · cases h
    rfl
  · cases he
theorem Dq.dict {K : PySem.W.Frag} {H : Hp} {O : List Addr} {v : V} {kv} (h : Dq K H O v (.dict kv)) : False := by
  rcases h with h | ⟨l, xs, es, rfl, hl, he, ha⟩
  · cases h
  · cases he

end Rv
namespace Rv
open PySem L2
/-! The data layer, part 2: slots, expressions, statements and their mirrors. -/

/-- the keys of a dict of tuples, as data -/
def keyD : Key → PyData
  | .inl i => .int i
  | .inr x => .str x
/-- the entries of a dict whose keys are tuples -/
inductive KvD (K : PySem.W.Frag) (H : Hp) : List (List Key × V) → List (PyData × PyData) → Prop
  | nil : KvD K H [] []
  | cons {key : List Key} {v : V} {d : PyData} {kvs : List (List Key × V)} {es : List (PyData × PyData)} : Dp K H v d → KvD K H kvs es → KvD K H ((key, v) :: kvs) ((.tuple (key.map keyD), d) :: es)
theorem kvd_ex {K : PySem.W.Frag} {H H' : Hp} (e : Ex H H') : ∀ {kvs : List (List Key × V)} {es : List (PyData × PyData)}, KvD K H kvs es → KvD K H' kvs es
  | _, _, .nil => .nil
  | _, _, .cons h r => .cons (dp_ex e h) (kvd_ex e r)
/-- the entries of a dict whose keys are texts and whole numbers -/
inductive KvK (K : PySem.W.Frag) (H : Hp) : List (Key × V) → List (PyData × PyData) → Prop
  | nil : KvK K H [] []
  | cons {key : Key} {v : V} {d : PyData} {kvs : List (Key × V)} {es : List (PyData × PyData)} : Dp K H v d → KvK K H kvs es → KvK K H ((key, v) :: kvs) ((keyD key, d) :: es)
theorem kvk_ex {K : PySem.W.Frag} {H H' : Hp} (e : Ex H H') : ∀ {kvs : List (Key × V)} {es : List (PyData × PyData)}, KvK K H kvs es → KvK K H' kvs es
  | _, _, .nil => .nil
  | _, _, .cons h r => .cons (dp_ex e h) (kvk_ex e r)
/-- what an owned object holds: a list, a dict by tuples, a dict by texts -/
def OwD (K : PySem.W.Frag) (H : Hp) (kind : Nat) (o : HO) (d : PyData) : Prop := match kind with
  | 0 => ∃ xs ds, o = .lst xs ∧ d = .list ds ∧ DpAll K H xs ds
  | 1 => ∃ kvs es, o = .dT kvs ∧ d = .dict es ∧ KvD K H kvs es ∧ (kvs.map Prod.fst).Nodup
  | _ + 2 => ∃ kvs es, o = .dK kvs ∧ d = .dict es ∧ KvK K H kvs es
theorem OwD.ex {K : PySem.W.Frag} {H H' : Hp} {c : Nat} {o : HO} {d : PyData} (e : Ex H H') (h : OwD K H c o d) : OwD K H' c o d := by
  match c, h with
  | 0, h =>
    obtain ⟨xs, ds, h1, h2, h3⟩ := h
    exact ⟨xs, ds, h1, h2, dpAll_ex e h3⟩
  | 1, h =>
    obtain ⟨xs, ds, h1, h2, h3, h4⟩ := h
    exact ⟨xs, ds, h1, h2, kvd_ex e h3, h4⟩
  | _ + 2, h =>
    obtain ⟨xs, ds, h1, h2, h3⟩ := h
    exact ⟨xs, ds, h1, h2, kvk_ex e h3⟩
/-- what kind of own slot is i? (1000 + i: a dict by tuples; 2000 + i: one by texts) -/
def dictS (M : List Nat) (i : Nat) : Nat := if 1000 + i ∈ M then 1 else if 2000 + i ∈ M then 2 else 0
/-- the slots σ and the heap H hold what the mirror env says; M the slots of lists that are written; H0, O0: the heap and the owned ahead of the def -/
structure Sl (K : PySem.W.Frag) (M : List Nat) (H0 : Hp) (O0 O : List Addr) (σ : St) (H : Hp) (env : En) : Prop where
  ext : Ex H0 H
  fresh : ∀ l ∈ O, l ∈ O0 ∨ H0 l = none
  sub : ∀ l ∈ O0, l ∈ O
  there : ∀ l ∈ O, ∃ o, H l = some o
  sh : ∀ i d, env[i]? = some (some d) → i ∉ M → ∃ v, σ[i]? = some (some v) ∧ Dp K (cut H O) v d
  ow : ∀ i d, env[i]? = some (some d) → i ∈ M → ∃ l o, σ[i]? = some (some (.ref l)) ∧ l ∈ O ∧ l ∉ O0 ∧ H l = some o ∧ OwD K (cut H O) (dictS M i) o d
  inj : ∀ i j d e l, i ∈ M → j ∈ M → env[i]? = some (some d) → env[j]? = some (some e) → σ[i]? = some (some (.ref l)) → σ[j]? = some (some (.ref l)) → i = j
  len : σ.length = env.length
section
variable {K : PySem.W.Frag} {M : List Nat} {H0 : Hp} {O0 O : List Addr} {σ : St} {H H' : Hp} {env : En}
theorem Sl.ex (s : Sl K M H0 O0 O σ H env) (e : Ex H H') : Sl K M H0 O0 O σ H' env :=
  ⟨s.ext.trans e, s.fresh, s.sub, fun l h => by
    obtain ⟨o, q⟩ := s.there l h
    exact ⟨o, e _ _ q⟩, fun i d h n => by
    obtain ⟨v, h1, h2⟩ := s.sh i d h n
    exact ⟨v, h1, dp_ex (cut_mono e) h2⟩, fun i d h n => by
    obtain ⟨l, o, h1, h2, h3, h5, h6⟩ := s.ow i d h n
    exact ⟨l, o, h1, h2, h3, e _ _ h5, h6.ex (cut_mono e)⟩, s.inj, s.len⟩
/-- an own list -/
theorem Sl.lst (s : Sl K M H0 O0 O σ H env) {i : Nat} {d : PyData} (h : env[i]? = some (some d)) (hi : i ∈ M) (hn : dictS M i = 0) : ∃ l xs ds, σ[i]? = some (some (.ref l)) ∧ l ∈ O ∧ l ∉ O0 ∧ d = .list ds ∧ H l = some (.lst xs) ∧ DpAll K (cut H O) xs ds := by
  obtain ⟨l, o, h1, h2, h3, h5, h6⟩ := s.ow i d h hi
  rw [hn] at h6
  obtain ⟨xs, ds, rfl, h7, h8⟩ := h6
  exact ⟨l, xs, ds, h1, h2, h3, h7, h5, h8⟩
/-- an own dict by texts -/
theorem Sl.dkt (s : Sl K M H0 O0 O σ H env) {i : Nat} {d : PyData} (h : env[i]? = some (some d)) (hi : i ∈ M) (hn : dictS M i = 2) : ∃ l kvs es, σ[i]? = some (some (.ref l)) ∧ l ∈ O ∧ l ∉ O0 ∧ d = .dict es ∧ H l = some (.dK kvs) ∧ KvK K (cut H O) kvs es := by
  obtain ⟨l, o, h1, h2, h3, h5, h6⟩ := s.ow i d h hi
  rw [hn] at h6
  obtain ⟨xs, ds, rfl, h7, h8⟩ := h6
  exact ⟨l, xs, ds, h1, h2, h3, h7, h5, h8⟩
/-- an own dict -/
theorem Sl.dct (s : Sl K M H0 O0 O σ H env) {i : Nat} {d : PyData} (h : env[i]? = some (some d)) (hi : i ∈ M) (hn : dictS M i = 1) : ∃ l kvs es, σ[i]? = some (some (.ref l)) ∧ l ∈ O ∧ l ∉ O0 ∧ d = .dict es ∧ H l = some (.dT kvs) ∧ KvD K (cut H O) kvs es ∧ (kvs.map Prod.fst).Nodup := by
  obtain ⟨l, o, h1, h2, h3, h5, h6⟩ := s.ow i d h hi
  rw [hn] at h6
  obtain ⟨xs, ds, rfl, h7, h8⟩ := h6
  exact ⟨l, xs, ds, h1, h2, h3, h7, h5, h8⟩
theorem Sl.new (s : Sl K M H0 O0 O σ H env) {p : Addr} (h : H p = none) : p ∉ O := fun z => by
  obtain ⟨o, q⟩ := s.there p z
  rw [q] at h
  cases h
/-- a shared slot is written -/
theorem Sl.set (s : Sl K M H0 O0 O σ H env) {i : Nat} {v : V} {d : PyData} (hi : i ∉ M) (h : Dp K (cut H O) v d) : Sl K M H0 O0 O (σ.set i (some v)) H (env.set i (some d)) := by
  refine ⟨s.ext, s.fresh, s.sub, s.there, fun j e hj n => ?_, fun j e hj n => ?_, fun j k e e' l hj hk h1 h2 h3 h4 => ?_, by rw [List.length_set, List.length_set]; exact s.len⟩
  · by_cases z : i = j
    · subst z
      have hl : i < env.length := by
        by_cases q : i < env.length
        · exact q
        · rw [List.getElem?_eq_none (by rw [List.length_set]; omega)] at hj
          cases hj
      rw [List.getElem?_set_self hl] at hj
      have e1 : d = e := Option.some.inj (Option.some.inj hj)
      subst e1
      exact ⟨v, by rw [List.getElem?_set_self (by rw [s.len]; exact hl)], h⟩
    · rw [List.getElem?_set_ne z] at hj ⊢
      exact s.sh j e hj n
  · have z : i ≠ j := fun q => hi (q ▸ n)
    rw [List.getElem?_set_ne z] at hj ⊢
    exact s.ow j e hj n
  · have z : i ≠ j := fun q => hi (q ▸ hj)
    have y : i ≠ k := fun q => hi (q ▸ hk)
    rw [List.getElem?_set_ne z] at h1 h3
    rw [List.getElem?_set_ne y] at h2 h4
    exact s.inj j k e e' l hj hk h1 h2 h3 h4
/-- a slot is forgotten -/
theorem Sl.drop (s : Sl K M H0 O0 O σ H env) {i : Nat} {v : Option V} : Sl K M H0 O0 O (σ.set i v) H (env.set i none) := by
  have back : ∀ j e, (env.set i none)[j]? = some (some e) → i ≠ j ∧ env[j]? = some (some e) := fun j e hj => by
    by_cases z : i = j
    · subst z
      by_cases q : i < env.length
      · rw [List.getElem?_set_self q] at hj
        cases hj
      · rw [List.getElem?_eq_none (by rw [List.length_set]; omega)] at hj
        cases hj
    · rw [List.getElem?_set_ne z] at hj
      exact ⟨z, hj⟩
  refine ⟨s.ext, s.fresh, s.sub, s.there, fun j e hj n => ?_, fun j e hj n => ?_, fun j k e e' l hj hk h1 h2 h3 h4 => ?_, by rw [List.length_set, List.length_set]; exact s.len⟩
  · obtain ⟨z, hj⟩ := back j e hj
    rw [List.getElem?_set_ne z]
    exact s.sh j e hj n
  · obtain ⟨z, hj⟩ := back j e hj
    rw [List.getElem?_set_ne z]
    exact s.ow j e hj n
  · obtain ⟨z, h1⟩ := back j e h1
    obtain ⟨y, h2⟩ := back k e' h2
    rw [List.getElem?_set_ne z] at h3
    rw [List.getElem?_set_ne y] at h4
    exact s.inj j k e e' l hj hk h1 h2 h3 h4
theorem set_some {i j : Nat} {env : En} {x : Option PyData} {e : PyData} (h : (env.set i x)[j]? = some (some e)) : (i = j ∧ x = some e ∧ i < env.length) ∨ (i ≠ j ∧ env[j]? = some (some e)) := by
  by_cases z : i = j
  · subst z
    by_cases q : i < env.length
    · rw [List.getElem?_set_self q] at h
      exact .inl ⟨rfl, Option.some.inj h, q⟩
    · rw [List.getElem?_eq_none (by rw [List.length_set]; omega)] at h
      cases h
  · rw [List.getElem?_set_ne z] at h
    exact .inr ⟨z, h⟩
/-- a new list becomes a slot's own -/
theorem Sl.ownG (s : Sl K M H0 O0 O σ H env) {i : Nat} {p : Addr} {ob : HO} {db : PyData} (hi : i ∈ M) (hp : H p = none) (hx : Ex H H') (hl : H' p = some ob) (ha : OwD K (cut H' (p :: O)) (dictS M i) ob db) :
    Sl K M H0 O0 (p :: O) (σ.set i (some (.ref p))) H' (env.set i (some db)) := by
  have np := s.new hp
  have s' := s.ex hx
  have hcut : Ex (cut H O) (cut H' (p :: O)) := fun a o q => by
    by_cases z : a ∈ O
    · rw [cut_in z] at q
      cases q
    · rw [cut_out z] at q
      have za : a ≠ p := fun y => by rw [y, hp] at q; cases q
      rw [cut_out (by simp only [List.mem_cons, not_or]; exact ⟨za, z⟩)]
      exact hx a o q
  have hp0 : H0 p = none := s.ext.free hp
  have npo : p ∉ O0 := fun z => np (s.sub p z)
  refine ⟨s'.ext, fun l h => ?_, fun l h => List.mem_cons_of_mem _ (s.sub l h), fun l h => ?_, fun j e hj n => ?_, fun j e hj n => ?_, fun j k e e' l hj hk h1 h2 h3 h4 => ?_, by rw [List.length_set, List.length_set]; exact s.len⟩
  · rcases List.mem_cons.mp h with z | z
    · subst z
      exact .inr hp0
    · exact s.fresh l z
  · rcases List.mem_cons.mp h with z | z
    · subst z
      exact ⟨_, hl⟩
    · exact s'.there l z
  · rcases set_some hj with ⟨z, _, _⟩ | ⟨z, hj⟩
    · exact absurd (z ▸ hi) n
    · rw [List.getElem?_set_ne z]
      obtain ⟨v, h1, h2⟩ := s.sh j e hj n
      exact ⟨v, h1, dp_ex hcut h2⟩
  · rcases set_some hj with ⟨z, e1, q⟩ | ⟨z, hj⟩
    · subst z
      cases e1
      exact ⟨p, ob, List.getElem?_set_self (by rw [s.len]; exact q), List.mem_cons_self, npo, hl, ha⟩
    · rw [List.getElem?_set_ne z]
      obtain ⟨l, o, h1, h2, h3, h5, h6⟩ := s.ow j e hj n
      exact ⟨l, o, h1, List.mem_cons_of_mem _ h2, h3, hx _ _ h5, h6.ex hcut⟩
  · have other : ∀ a b, i ≠ a → a ∈ M → env[a]? = some (some b) → σ[a]? ≠ some (some (.ref p)) := fun a b _ ham hab q => by
      obtain ⟨l', _, g1, g2, _⟩ := s.ow a b hab ham
      rw [q] at g1
      have : p = l' := V.ref.inj (Option.some.inj (Option.some.inj g1))
      exact np (this ▸ g2)
    rcases set_some h1 with ⟨z, _, q⟩ | ⟨z, h1⟩
    · rcases set_some h2 with ⟨y, _, _⟩ | ⟨y, h2⟩
      · exact z.symm.trans y
      · subst z
        rw [List.getElem?_set_self (by rw [s.len]; exact q)] at h3
        have el : p = l := V.ref.inj (Option.some.inj (Option.some.inj h3))
        rw [List.getElem?_set_ne y, ← el] at h4
        exact absurd h4 (other k e' y hk h2)
    · rw [List.getElem?_set_ne z] at h3
      rcases set_some h2 with ⟨y, _, q⟩ | ⟨y, h2⟩
      · subst y
        rw [List.getElem?_set_self (by rw [s.len]; exact q)] at h4
        have el : p = l := V.ref.inj (Option.some.inj (Option.some.inj h4))
        rw [← el] at h3
        exact absurd h3 (other j e z hj h1)
      · rw [List.getElem?_set_ne y] at h4
        exact s.inj j k e e' l hj hk h1 h2 h3 h4
theorem cut_write {l : Addr} {o : HO} (h : l ∈ O) : cut (upd H l o) O = cut H O := by
  funext a
  by_cases z : a ∈ O
  · rw [cut_in z, cut_in z]
  · rw [cut_out z, cut_out z, upd_ne fun (y : a = l) => z (by rw [y]; exact h)]
theorem Sl.own (s : Sl K M H0 O0 O σ H env) {i : Nat} {p : Addr} {xs : List V} {ds : List PyData} (hi : i ∈ M) (hd : dictS M i = 0) (hp : H p = none) (hx : Ex H H') (hl : H' p = some (.lst xs)) (ha : DpAll K (cut H' (p :: O)) xs ds) :
    Sl K M H0 O0 (p :: O) (σ.set i (some (.ref p))) H' (env.set i (some (.list ds))) := s.ownG hi hp hx hl (by
  rw [hd]
  exact ⟨xs, ds, rfl, rfl, ha⟩)
/-- an own object is written -/
theorem Sl.writeG (s : Sl K M H0 O0 O σ H env) {i : Nat} {l : Addr} {ob : HO} {d db : PyData} (hi : i ∈ M) (he : env[i]? = some (some d)) (hs : σ[i]? = some (some (.ref l))) (hO : l ∈ O) (hn : l ∉ O0) (ha : OwD K (cut H O) (dictS M i) ob db) :
    Sl K M H0 O0 O σ (upd H l ob) (env.set i (some db)) := by
  have hc : cut (upd H l ob) O = cut H O := cut_write hO
  have h0 : H0 l = none := (s.fresh l hO).resolve_left hn
  refine ⟨fun a o q => ?_, s.fresh, s.sub, fun a h => ?_, fun j e hj n => ?_, fun j e hj n => ?_, fun j k e e' l' hj hk h1 h2 h3 h4 => ?_, by rw [List.length_set]; exact s.len⟩
  · rw [upd_ne fun z => by rw [z, h0] at q; cases q]
    exact s.ext a o q
  · by_cases z : a = l
    · subst z
      exact ⟨_, upd_same⟩
    · rw [upd_ne z]
      exact s.there a h
  · rcases set_some hj with ⟨z, _, _⟩ | ⟨z, hj⟩
    · exact absurd (z ▸ hi) n
    · rw [hc]
      exact s.sh j e hj n
  · rcases set_some hj with ⟨z, e1, q⟩ | ⟨z, hj⟩
    · subst z
      cases e1
      exact ⟨l, ob, hs, hO, hn, upd_same, by rw [hc]; exact ha⟩
    · obtain ⟨l', o', g1, g2, g3, g5, g6⟩ := s.ow j e hj n
      refine ⟨l', o', g1, g2, g3, ?_, by rw [hc]; exact g6⟩
      rw [upd_ne fun (y : l' = l) => z (s.inj i j d e l hi n he hj hs (by rw [← y]; exact g1))]
      exact g5
  · have up : ∀ a b, (env.set i (some db))[a]? = some (some b) → ∃ b', env[a]? = some (some b') := fun a b q => by
      rcases set_some q with ⟨z, _, _⟩ | ⟨z, q⟩
      · subst z
        exact ⟨d, he⟩
      · exact ⟨b, q⟩
    obtain ⟨b1, h1⟩ := up j e h1
    obtain ⟨b2, h2⟩ := up k e' h2
    exact s.inj j k b1 b2 l' hj hk h1 h2 h3 h4
/-- an own list is written -/
theorem Sl.write (s : Sl K M H0 O0 O σ H env) {i : Nat} {l : Addr} {xs : List V} {d : PyData} {ds : List PyData} (hi : i ∈ M) (hd : dictS M i = 0) (he : env[i]? = some (some d)) (hs : σ[i]? = some (some (.ref l))) (hO : l ∈ O) (hn : l ∉ O0) (ha : DpAll K (cut H O) xs ds) :
    Sl K M H0 O0 O σ (upd H l (.lst xs)) (env.set i (some (.list ds))) := s.writeG hi he hs hO hn (by
  rw [hd]
  exact ⟨xs, ds, rfl, rfl, ha⟩)
end

/-! ### the judgements of readings -/
/-- an expression's reading gives what its mirror says, outside the owned -/
def Snd (K : PySem.W.Frag) (M : List Nat) (t : TE) (m : En → Option PyData) : Prop :=
  ∀ H0 O0 O σ H env d, Sl K M H0 O0 O σ H env → m env = some d → ∀ Q : VK, (∀ v H2, Ex H H2 → Dp K (cut H2 O) v d → Q v H2) → t σ H Q
/-- .. or an own list itself -/
def SndQ (K : PySem.W.Frag) (M : List Nat) (t : TE) (m : En → Option PyData) : Prop :=
  ∀ H0 O0 O σ H env d, Sl K M H0 O0 O σ H env → m env = some d → ∀ Q : VK, (∀ v H2, Ex H H2 → Dq K H2 O v d → Q v H2) → t σ H Q
def SndT (K : PySem.W.Frag) (M : List Nat) (t : TT) (m : En → Option Bool) : Prop :=
  ∀ H0 O0 O σ H env b, Sl K M H0 O0 O σ H env → m env = some b → ∀ Q : Bool → Hp → Prop, (∀ H2, Ex H H2 → Q b H2) → t σ H Q
/-- arguments; those that may be own lists -/
def SndA (K : PySem.W.Frag) (M : List Nat) (t : TA) (m : En → Option (List PyData)) : Prop :=
  ∀ H0 O0 O σ H env ds, Sl K M H0 O0 O σ H env → m env = some ds → ∀ Q : List V → Hp → Prop, (∀ vs H2, Ex H H2 → DpAll K (cut H2 O) vs ds → Q vs H2) → t σ H Q
/-- how a block goes on -/
inductive Fl where
  | nx (env : En) | rt (d : PyData) | bk (env : En) | ct (env : En)
def Cont (K : PySem.W.Frag) (M : List Nat) (H0 : Hp) (O0 O : List Addr) (H : Hp) (D : Ends) : Fl → Prop
  | .nx env => ∀ σ' H' O', Sl K M H0 O0 O' σ' H' env → Ex (cut H O) (cut H' O') → D.nx σ' H'
  | .rt d => ∀ v H', Ex H0 H' → Dp K (cut H' O0) v d → D.rt v H'
  | .bk env => ∀ σ' H' O', Sl K M H0 O0 O' σ' H' env → Ex (cut H O) (cut H' O') → D.bk σ' H'
  | .ct env => ∀ σ' H' O', Sl K M H0 O0 O' σ' H' env → Ex (cut H O) (cut H' O') → D.ct σ' H'
def SndS (K : PySem.W.Frag) (M : List Nat) (t : TS) (m : En → Option Fl) : Prop :=
  ∀ H0 O0 O σ H env fl D, Sl K M H0 O0 O σ H env → m env = some fl → Cont K M H0 O0 O H D fl → t D σ H
/-- targets: the value, what the slots are then -/
def SndG (K : PySem.W.Frag) (M : List Nat) (g : TG) (b : PyData → En → Option En) : Prop :=
  ∀ H0 O0 O σ H env d env' v, Sl K M H0 O0 O σ H env → Dp K (cut H O) v d → b d env = some env' → ∀ Q : St → Hp → Prop, (∀ σ', Sl K M H0 O0 O σ' H env' → Q σ' H) → g v σ H Q

end Rv
namespace Rv
open PySem L2 PySem.Spec PyProof.Rows
/-! The data layer, part 3: expressions. A family X of contexts (a def's body, a comprehension's block) has one reading. -/

structure MD {ι : Type} (X : ι → Cx) (K : PySem.W.Frag) (M : List Nat) (e : Expr) (t : TE) (m : En → Option PyData) : Prop where
  pe : ∀ i, PE (X i) e t
  sd : Snd K M t m
structure MQ {ι : Type} (X : ι → Cx) (K : PySem.W.Frag) (M : List Nat) (e : Expr) (t : TE) (m : En → Option PyData) : Prop where
  pe : ∀ i, PE (X i) e t
  sd : SndQ K M t m
structure MT {ι : Type} (X : ι → Cx) (K : PySem.W.Frag) (M : List Nat) (e : Expr) (t : TT) (m : En → Option Bool) : Prop where
  pt : ∀ i, PT (X i) e t
  sd : SndT K M t m
structure MA {ι : Type} (X : ι → Cx) (K : PySem.W.Frag) (M : List Nat) (es : List Expr) (t : TA) (m : En → Option (List PyData)) : Prop where
  pa : ∀ i, PA (X i) es t
  sd : SndA K M t m
/-- what every context of a family has -/
structure Fam {ι : Type} (X : ι → Cx) (K : PySem.W.Frag) (N : List Str) (k : Nat) : Prop where
  hK : ∀ i, (X i).K = K
  calm : ∀ i, (X i).calm = true
  room : ∀ i, Room k (X i).A
  hN : ∀ i, (X i).N = N
  nd : N.Nodup
theorem Fam.u65 {ι : Type} {X : ι → Cx} {K : PySem.W.Frag} {N : List Str} {k : Nat} (F : Fam X K N k) (i : ι) : (X i).A.units + 65 < cLine := by
  have := (F.room i).un
  omega
theorem Fam.u64 {ι : Type} {X : ι → Cx} {K : PySem.W.Frag} {N : List Str} {k : Nat} (F : Fam X K N k) (i : ι) : (X i).A.units + 64 < cLine := by
  have := (F.room i).un
  omega

section
variable {ι : Type} {X : ι → Cx} {K : PySem.W.Frag} {N : List Str} {k : Nat} {M : List Nat} {a b c e : Expr} {ta tb tc te : TE} {ma mb mc me : En → Option PyData} {pos : Pos}

theorem snd_q {t : TE} {m : En → Option PyData} (h : Snd K M t m) : SndQ K M t m := fun H0 O0 O σ H env d s hm Q q =>
  h H0 O0 O σ H env d s hm Q fun v H2 e hv => q v H2 e (.inl hv)
theorem q_of (h : MD X K M e te me) : MQ X K M e te me := ⟨h.pe, snd_q h.sd⟩

/-! ### a name, a constant -/
def mVar (i : Nat) : En → Option PyData := fun env => (env[i]?).join
theorem join_some {α : Type} {x : Option (Option α)} {a : α} (h : x.join = some a) : x = some (some a) := by
  cases x with
  | none => cases h
  | some y =>
    cases y with
    | none => cases h
    | some z =>
      have : z = a := Option.some.inj h
      rw [this]
theorem d_var (i : Nat) {x : Str} (hi : i ∉ M := by decide) (hp : ∀ j, PE (X j) (.Name x pos) (tVar i) := by exact fun _ => pv _) : MD X K M (.Name x pos) (tVar i) (mVar i) :=
  ⟨hp, fun H0 O0 O σ H env d s hm Q q => by
    obtain ⟨v, h1, h2⟩ := s.sh i d (join_some hm) hi
    exact ⟨v, h1, q v H (Ex.refl H) h2⟩⟩
theorem q_var (i : Nat) {x : Str} (hi : i ∈ M := by decide) (hd : dictS M i = 0 := by decide) (hp : ∀ j, PE (X j) (.Name x pos) (tVar i) := by exact fun _ => pv _) : MQ X K M (.Name x pos) (tVar i) (mVar i) :=
  ⟨hp, fun H0 O0 O σ H env d s hm Q q => by
    obtain ⟨l, xs, ds, h1, h2, h3, h4, h5, h6⟩ := s.lst (join_some hm) hi hd
    exact ⟨_, h1, q _ H (Ex.refl H) (.inr ⟨l, xs, ds, rfl, h5, h4, h6⟩)⟩⟩
def mC (d : PyData) : En → Option PyData := fun _ => some d
theorem snd_c {v : V} {d : PyData} (h : ∀ H, Dp K H v d) : Snd K M (tC v) (mC d) := fun H0 O0 O σ H env d' s hm Q q => by
  have e : d = d' := Option.some.inj hm
  subst e
  exact q v H (Ex.refl H) (h _)
theorem d_int {i : Int} {j : Nat} : MD X K M (.Constant (.int i) j pos) (tC (.int i)) (mC (.int i)) := ⟨fun _ => pe_int, snd_c fun _ => .int i⟩
theorem d_str {x : Str} {j : Nat} : MD X K M (.Constant (.str x) j pos) (tC (.str x)) (mC (.str x)) := ⟨fun _ => pe_str, snd_c fun _ => .str x⟩
theorem d_bl {x : Bool} {j : Nat} : MD X K M (.Constant (.bool x) j pos) (tC (.bl x)) (mC (.bool x)) := ⟨fun _ => pe_bl, snd_c fun _ => .bl x⟩
theorem d_non {j : Nat} : MD X K M (.Constant .none j pos) (tC .non) (mC .none) := ⟨fun _ => pe_non, snd_c fun _ => .non⟩
/-- a module's own constant, data that stand in the written part -/
theorem d_glob {x : Str} {v : V} {d : PyData} (hd : ∀ H, Dp K H v d) (hp : ∀ j, PE (X j) (.Name x pos) (tC v)) : MD X K M (.Name x pos) (tC v) (mC d) := ⟨hp, snd_c hd⟩

/-! ### operators of two values -/
def OpD (K : PySem.W.Frag) (r : R2) (f : PyData → PyData → Option PyData) : Prop :=
  ∀ (H : Hp) (O : List Addr) x y d1 d2 d, (∀ l ∈ O, ∃ o, H l = some o) → Dq K H O x d1 → Dq K H O y d2 → f d1 d2 = some d → ∀ Q : VK, (∀ v H2, Ex H H2 → Dp K (cut H2 O) v d → Q v H2) → r x y H Q
def mBin (f : PyData → PyData → Option PyData) (ma mb : En → Option PyData) : En → Option PyData := fun env => (ma env).bind fun a => (mb env).bind fun b => f a b
theorem bind2 {α β γ : Type} {x : Option α} {y : Option β} {f : α → β → Option γ} {c : γ} (h : (x.bind fun a => y.bind fun b => f a b) = some c) : ∃ a b, x = some a ∧ y = some b ∧ f a b = some c := by
  cases x with
  | none => cases h
  | some a =>
    cases y with
    | none => cases h
    | some b => exact ⟨a, b, rfl, rfl, h⟩
theorem snd_op {r : R2} {f : PyData → PyData → Option PyData} (hf : OpD K r f) (ha : SndQ K M ta ma) (hb : SndQ K M tb mb) : Snd K M (tOp r ta tb) (mBin f ma mb) := fun H0 O0 O σ H env d s hm Q q => by
  obtain ⟨da, db, h1, h2, h3⟩ := bind2 hm
  refine ha H0 O0 O σ H env da s h1 _ fun x H1 e1 hx => ?_
  refine hb H0 O0 O σ H1 env db (s.ex e1) h2 _ fun y H2 e2 hy => ?_
  exact hf H2 O x y da db d ((s.ex e1).ex e2).there (hx.ex e2) hy h3 Q fun v H3 e3 hv => q v H3 ((e1.trans e2).trans e3) hv
theorem d_op {r : R2} {op : Operator} {f : PyData → PyData → Option PyData} (ho : ∀ i, OpR (X i) (binaryOp op) r) (hf : OpD K r f) (ha : MQ X K M a ta ma) (hb : MQ X K M b tb mb) : MD X K M (.BinOp a op b pos) (tOp r ta tb) (mBin f ma mb) :=
  ⟨fun i => pe_op (ho i) (ha.pe i) (hb.pe i), snd_op hf ha.sd hb.sd⟩
theorem d_cmp {r : R2} {op : CmpOp} {f : PyData → PyData → Option PyData} (ho : ∀ i, OpR (X i) (compareOp op) r) (hf : OpD K r f) (ha : MQ X K M a ta ma) (hb : MQ X K M b tb mb) (hm : behindInMarks op b = false := by first | exact nomark _ | rfl) : MD X K M (.Compare a [op] [b] pos) (tOp r ta tb) (mBin f ma mb) :=
  ⟨fun i => pe_cmpR (ho i) (ha.pe i) (hb.pe i) hm, snd_op hf ha.sd hb.sd⟩
theorem d_ix {r : R2} {f : PyData → PyData → Option PyData} (ho : ∀ i, IxR (X i) r) (hf : OpD K r f) (ha : MQ X K M a ta ma) (hb : MQ X K M b tb mb) (hp : PlainIx b := by exact fun _ _ => rfl) : MD X K M (.Subscript a b pos) (tOp r ta tb) (mBin f ma mb) :=
  ⟨fun i => pe_ix (ho i) (ha.pe i) (hb.pe i) hp, snd_op hf ha.sd hb.sd⟩
end

end Rv
namespace Rv
open PySem L2 PySem.Spec PyProof.Rows
/-! The data layer, part 4: the operators on data. -/

/-! ### lists of any kind joined -/
def rCatS (K : PySem.W.Frag) : R2 := fun x y H Q => ∃ l b xs zs, x = .ref l ∧ y = .ref b ∧ SqL K H l xs ∧ SqL K H b zs ∧ xs.length + zs.length ≤ sizeLine ∧ ∀ p, H p = none → Q (.ref p) (upd H p (.lst (xs ++ zs)))
theorem op_catS {X : Cx} : OpR X (binaryOp .Add) (rCatS X.K) := fun _ st _ _ _ _ _ _ _ inv rx ry ⟨p, q, xs, ys, ex, ey, hp, hq, small, wish⟩ => by
  subst ex ey
  obtain rfl := rx
  obtain rfl := ry
  obtain ⟨us, r1, ⟨⟨k1, d1, c1, sl1⟩, n1, at1, isl1, _, dat1⟩, _⟩ := inv.list hp
  obtain ⟨ws, r2, ⟨⟨k2, d2, c2, sl2⟩, n2, at2, isl2, _, dat2⟩, _⟩ := inv.list hq
  obtain rfl : k1 = .type "list" := isl1
  obtain rfl : k2 = .type "list" := isl2
  obtain rfl : c1 = .seq us.toArray n1 := dat1
  obtain rfl : c2 = .seq ws.toArray n2 := dat2
  have fits : us.toArray.size + ws.toArray.size ≤ sizeLine := by
    simp only [List.size_toArray, ← r1.length, ← r2.length]
    exact small
  have made := list_addW p q us.toArray ws.toArray n1 n2 d1 d2 sl1 sl2 fits
  refine concat_meets ⟨_, at1, rfl⟩ ⟨_, at2, rfl⟩ noFill_list_add seq_list_add PySem.F.slot_list_add PySem.F.entry_list_add (PySem.F.args_list_add_2 _ _) made ⟨at1, at2, ?_⟩
  simp only [List.append_toArray]
  have joined := inv.lnew (t' := st.toks) (r1.append r2) (by simp only [List.length_append]; exact small)
  exact ⟨.ref _, _, joined, rfl, wish _ inv.fresh⟩

section
variable {K : PySem.W.Frag}
theorem or_l {r r' : R2} {f : PyData → PyData → Option PyData} (h : OpD K r f) : OpD K (fun x y H Q => r x y H Q ∨ r' x y H Q) f := fun H O x y d1 d2 d ht h1 h2 hf Q q => .inl (h H O x y d1 d2 d ht h1 h2 hf Q q)

/-! ### + -/
def dAdd : PyData → PyData → Option PyData
  | .int i, .int j => some (.int (i + j))
  | .str x, .str y => if x.length + y.length ≤ sizeLine then some (.str (x ++ y)) else none
  | .list xs, .list ys => if xs.length + ys.length ≤ sizeLine then some (.list (xs ++ ys)) else none
  | .tuple xs, .tuple ys => if xs.length + ys.length ≤ sizeLine then some (.tuple (xs ++ ys)) else none
  | _, _ => none
def rAddI : R2 := rI0 fun i j => .int (i + j)
def rAddS : R2 := fun x y H Q => ∃ i j, x = .str i ∧ y = .str j ∧ i.length + j.length ≤ sizeLine ∧ Q (.str (i ++ j)) H
def rAdds (K : PySem.W.Frag) : R2 := fun x y H Q => rAddI x y H Q ∨ rAddS x y H Q ∨ rCatS K x y H Q ∨ rCatA K x y H Q
theorem op_adds {X : Cx} (hK : X.K = K) : OpR X (binaryOp .Add) (rAdds K) := by
  subst hK
  exact OpR.or op_add (OpR.or op_add_str (OpR.or op_catS op_catA))
theorem new_list {H : Hp} {O : List Addr} {xs : List V} {ds : List PyData} {p : Addr} (ht : ∀ l ∈ O, ∃ o, H l = some o) (hp : H p = none) (h : DpAll K (cut H O) xs ds) : Dp K (cut (upd H p (.lst xs)) O) (.ref p) (.list ds) :=
  .lst (.inl (.inl (cut_new ht hp))) (dpAll_ex (cut_mono (Ex.new hp)) h)
theorem new_tup {H : Hp} {O : List Addr} {xs : List V} {ds : List PyData} {p : Addr} (ht : ∀ l ∈ O, ∃ o, H l = some o) (hp : H p = none) (h : DpAll K (cut H O) xs ds) : Dp K (cut (upd H p (.tup xs)) O) (.ref p) (.tuple ds) :=
  .tup (.inl (.inl (cut_new ht hp))) (dpAll_ex (cut_mono (Ex.new hp)) h)
theorem ite_some {c : Prop} [Decidable c] {α : Type} {a b : α} (h : (if c then some a else none) = some b) : c ∧ a = b := by
  by_cases z : c
  · rw [if_pos z] at h
    exact ⟨z, Option.some.inj h⟩
  · rw [if_neg z] at h
    cases h
theorem opd_add : OpD K (rAdds K) dAdd := fun H O x y d1 d2 d ht h1 h2 hf Q q => by
  cases d1 with
  | int i =>
    cases d2 with
    | int j =>
      cases hf
      exact .inl ⟨i, j, h1.int, h2.int, q _ H (Ex.refl H) (.int _)⟩
    | _ => cases hf
  | str i =>
    cases d2 with
    | str j =>
      obtain ⟨hz, e⟩ := ite_some hf
      subst e
      exact .inr (.inl ⟨i, j, h1.str, h2.str, hz, q _ H (Ex.refl H) (.str _)⟩)
    | _ => cases hf
  | list xs =>
    cases d2 with
    | list ys =>
      obtain ⟨hz, e⟩ := ite_some hf
      subst e
      obtain ⟨a, vs, rfl, s1, a1⟩ := h1.list
      obtain ⟨b, ws, rfl, s2, a2⟩ := h2.list
      refine .inr (.inr (.inl ⟨a, b, vs, ws, rfl, rfl, s1, s2, by rw [dpAll_len a1, dpAll_len a2]; exact hz, fun p hp => q _ _ (Ex.new hp) ?_⟩))
      exact new_list ht hp (dpAll_app a1 a2)
    | _ => cases hf
  | tuple xs =>
    cases d2 with
    | tuple ys =>
      obtain ⟨hz, e⟩ := ite_some hf
      subst e
      obtain ⟨a, vs, rfl, s1, a1, c1⟩ := h1.tuple
      obtain ⟨b, ws, rfl, s2, a2, c2⟩ := h2.tuple
      refine .inr (.inr (.inr ⟨a, b, vs, ws, rfl, rfl, s1, s2, by rw [dpAll_len a1, dpAll_len a2]; exact hz, fun hn => ?_, fun hn hm => ?_, fun _ _ p hp => q _ _ (Ex.new hp) ?_⟩))
      · subst hn
        cases a1
        exact q _ H (Ex.refl H) (.tup c2 a2)
      · subst hm
        cases a2
        rw [List.append_nil] at q
        exact q _ H (Ex.refl H) (.tup c1 a1)
      · exact new_tup ht hp (dpAll_app a1 a2)
    | _ => cases hf
  | _ => cases hf

/-! ### numbers -/
def dI (C : Int → Int → Prop) [∀ i j, Decidable (C i j)] (g : Int → Int → PyData) : PyData → PyData → Option PyData
  | .int i, .int j => if C i j then some (g i j) else none
  | _, _ => none
theorem opd_I {C : Int → Int → Prop} [∀ i j, Decidable (C i j)] {g : Int → Int → V} {g' : Int → Int → PyData} (hg : ∀ i j H, Dp K H (g i j) (g' i j)) : OpD K (rI C g) (dI C g') := fun H O x y d1 d2 d ht h1 h2 hf Q q => by
  cases d1 with
  | int i =>
    cases d2 with
    | int j =>
      obtain ⟨hc, e⟩ := ite_some hf
      subst e
      exact ⟨i, j, h1.int, h2.int, hc, q _ H (Ex.refl H) (hg i j _)⟩
    | _ => cases hf
  | _ => cases hf
def dI0 (g : Int → Int → PyData) : PyData → PyData → Option PyData
  | .int i, .int j => some (g i j)
  | _, _ => none
theorem opd_I0 {g : Int → Int → V} {g' : Int → Int → PyData} (hg : ∀ i j H, Dp K H (g i j) (g' i j)) : OpD K (rI0 g) (dI0 g') := fun H O x y d1 d2 d ht h1 h2 hf Q q => by
  cases d1 with
  | int i =>
    cases d2 with
    | int j =>
      cases hf
      exact ⟨i, j, h1.int, h2.int, q _ H (Ex.refl H) (hg i j _)⟩
    | _ => cases hf
  | _ => cases hf
def dSub := dI0 fun i j => .int (i - j)
theorem opd_sub : OpD K (rI0 fun i j => .int (i - j)) dSub := opd_I0 fun _ _ _ => .int _
instance (i j : Int) : Decidable (CMul i j) := by unfold CMul; infer_instance
instance (i j : Int) : Decidable (CMulW i j) := by unfold CMulW; infer_instance
instance (i j : Int) : Decidable (CDivW i j) := by unfold CDivW; infer_instance
instance (i j : Int) : Decidable (CPow i j) := by unfold CPow; infer_instance
def CMulA (i j : Int) : Prop := CMul i j ∨ CMulW i j
instance (i j : Int) : Decidable (CMulA i j) := by unfold CMulA; infer_instance
def rMulA : R2 := rI CMulA fun i j => .int (i * j)
theorem op_mulA {X : Cx} : OpR X (binaryOp .Mult) rMulA := fun pins s σ H x y v u Q I rx ry h => by
  obtain ⟨i, j, e1, e2, hc | hc, q⟩ := h
  · exact op_mul pins s σ H x y v u Q I rx ry ⟨i, j, e1, e2, hc, q⟩
  · exact op_mulW pins s σ H x y v u Q I rx ry ⟨i, j, e1, e2, hc, q⟩
def dMul := dI CMulA fun i j => .int (i * j)
theorem opd_mul : OpD K rMulA dMul := opd_I fun _ _ _ => .int _
def dDiv := dI CDivW fun i j => .int (i / j)
theorem opd_div : OpD K (rI CDivW fun i j => .int (i / j)) dDiv := opd_I fun _ _ _ => .int _
def dMod := dI (fun _ j => 0 < j) fun i j => .int (i % j)
theorem opd_mod : OpD K (rI (fun _ j => 0 < j) fun i j => .int (i % j)) dMod := opd_I fun _ _ _ => .int _
def dPow := dI CPow fun i j => .int (i ^ j.toNat)
theorem opd_pow : OpD K (rI CPow fun i j => .int (i ^ j.toNat)) dPow := opd_I fun _ _ _ => .int _

/-! ### == and != at any depth -/
def dEq (a b : PyData) : Option PyData := if SeqAt.shaped a = true ∧ SeqAt.shaped b = true then some (.bool (PyData.eqv a b)) else none
def dNe (a b : PyData) : Option PyData := if SeqAt.shaped a = true ∧ SeqAt.shaped b = true then some (.bool (!PyData.eqv a b)) else none
theorem opd_eq : OpD K (rEqD K) dEq := fun H O x y d1 d2 d ht h1 h2 hf Q q => by
  obtain ⟨hc, e⟩ := ite_some hf
  subst e
  exact ⟨d1, d2, h1.dp, h2.dp, hc.1, hc.2, q _ H (Ex.refl H) (.bl _)⟩
theorem opd_ne : OpD K (rNeD K) dNe := fun H O x y d1 d2 d ht h1 h2 hf Q q => by
  obtain ⟨hc, e⟩ := ite_some hf
  subst e
  exact ⟨d1, d2, h1.dp, h2.dp, hc.1, hc.2, q _ H (Ex.refl H) (.bl _)⟩
theorem op_eqK {X : Cx} (hK : X.K = K) (hu : X.A.units + 64 < cLine) : OpR X (compareOp .Eq) (rEqD K) := by
  subst hK
  exact op_eqD hu
theorem op_neK {X : Cx} (hK : X.K = K) (hu : X.A.units + 64 < cLine) : OpR X (compareOp .NotEq) (rNeD K) := by
  subst hK
  exact op_neD hu

/-! ### order -/
def rLts : R2 := fun x y H Q => rI0 (fun i j => .bl (decide (i < j))) x y H Q ∨ ∃ i j, x = .str i ∧ y = .str j ∧ Q (.bl (decide (i.cps.toList < j.cps.toList))) H
/-- a < b of alike data of any kind but None -/
def rLtD (K : PySem.W.Frag) : R2 := fun x y H Q => ∃ d e, Dp K H x d ∧ Dp K H y e ∧ PySem.W.alike d e = true ∧ d ≠ .none ∧ d.depth ≤ 64 ∧ Q (.bl (PySem.W.dataLt d e)) H
theorem op_ltD {X : Cx} (hu : X.A.units + 64 < cLine) : OpR X (compareOp .Lt) (rLtD X.K) := fun _ st _ H x y v u _ inv rx ry ⟨d1, d2, p1, p2, same, some_, flat, wish⟩ => by
  obtain ⟨as, reads1⟩ := Dp.reads inv d1 x v p1 rx
  obtain ⟨bs, reads2⟩ := Dp.reads inv d2 y u p2 ry
  have small : min d1.depth d2.depth ≤ d1.depth := Nat.min_le_left _ _
  exact PySem.W.rcLt_alike d1 d2 X.A st v u as bs reads1 reads2 same some_ (by omega) X.prog X.w X.xe _ ⟨.bl _, H, inv, rfl, wish⟩
theorem op_ltK {X : Cx} (hK : X.K = K) (hu : X.A.units + 64 < cLine) : OpR X (compareOp .Lt) (rLtD K) := by
  subst hK
  exact op_ltD hu
def dLt (a b : PyData) : Option PyData :=
  match a, b with
  | .int i, .int j => some (.bool (decide (i < j)))
  | .str x, .str y => some (.bool (decide (x.cps.toList < y.cps.toList)))
  | .tuple xs, .tuple ys => if PySem.W.alikeAll xs ys = true ∧ (PyData.tuple xs).depth ≤ 64 then some (.bool (PySem.W.dataLt (.tuple xs) (.tuple ys))) else none
  | _, _ => none
def rLtAll (K : PySem.W.Frag) : R2 := fun x y H Q => rI0 (fun i j => .bl (decide (i < j))) x y H Q ∨ (∃ i j, x = .str i ∧ y = .str j ∧ Q (.bl (decide (i.cps.toList < j.cps.toList))) H) ∨ rLtD K x y H Q
theorem op_ltAll {X : Cx} (hK : X.K = K) (hu : X.A.units + 64 < cLine) : OpR X (compareOp .Lt) (rLtAll K) := OpR.or op_lt (OpR.or op_lt_str (op_ltK hK hu))
theorem opd_lt : OpD K (rLtAll K) dLt := fun H O x y d1 d2 d ht h1 h2 hf Q q => by
  cases d1 with
  | int i =>
    cases d2 with
    | int j =>
      cases hf
      exact .inl ⟨i, j, h1.int, h2.int, q _ H (Ex.refl H) (.bl _)⟩
    | _ => cases hf
  | str i =>
    cases d2 with
    | str j =>
      cases hf
      exact .inr (.inl ⟨i, j, h1.str, h2.str, q _ H (Ex.refl H) (.bl _)⟩)
    | _ => cases hf
  | tuple xs =>
    cases d2 with
    | tuple ys =>
      obtain ⟨⟨ha, hz⟩, e⟩ := ite_some hf
      subst e
      exact .inr (.inr ⟨_, _, h1.dp, h2.dp, (by rw [PySem.W.alike]; exact ha), (fun z => by cases z), hz, q _ H (Ex.refl H) (.bl _)⟩)
    | _ => cases hf
  | _ => cases hf
def dLe := dI0 fun i j => .bool (decide (i ≤ j))
theorem opd_le : OpD K (rI0 fun i j => .bl (decide (i ≤ j))) dLe := opd_I0 fun _ _ _ => .bl _
def dGt := dI0 fun i j => .bool (decide (j < i))
theorem opd_gt : OpD K (rI0 fun i j => .bl (decide (j < i))) dGt := opd_I0 fun _ _ _ => .bl _
def dGe := dI0 fun i j => .bool (decide (j ≤ i))
theorem opd_ge : OpD K (rI0 fun i j => .bl (decide (j ≤ i))) dGe := opd_I0 fun _ _ _ => .bl _

/-! ### items -/
def dIx (a b : PyData) : Option PyData :=
  match a, b with
  | .list xs, .int i => atI xs i
  | .tuple xs, .int i => atI xs i
  | .str x, .int i => if x.length ≤ sizeLine then (atI x.cps.toList i).map fun c => .str ⟨#[c]⟩ else none
  | _, _ => none
theorem ix_seqK {X : Cx} (hK : X.K = K) : IxR X (rIx K) := by
  subst hK
  exact ix_seq
theorem atI_rel {H : Hp} {xs : List V} {ds : List PyData} {i : Int} {d : PyData} (h : DpAll K H xs ds) (e : atI ds i = some d) : ∃ v, atI xs i = some v ∧ Dp K H v d := by
  unfold atI at e ⊢
  rw [dpAll_len h]
  cases hj : ixN ds.length i with
  | none =>
    rw [hj] at e
    cases e
  | some j =>
    rw [hj] at e
    exact dpAll_get' h e
theorem opd_ix : OpD K (rIx K) dIx := fun H O x y d1 d2 d ht h1 h2 hf Q q => by
  cases d1 with
  | list xs =>
    cases d2 with
    | int i =>
      obtain ⟨a, vs, rfl, s1, a1⟩ := h1.list
      obtain ⟨v, e, hv⟩ := atI_rel a1 hf
      exact .inl ⟨a, vs, i, v, rfl, h2.int, s1, e, q _ H (Ex.refl H) hv⟩
    | _ => cases hf
  | tuple xs =>
    cases d2 with
    | int i =>
      obtain ⟨a, vs, rfl, s1, a1, _⟩ := h1.tuple
      obtain ⟨v, e, hv⟩ := atI_rel a1 hf
      exact .inr (.inl ⟨a, vs, i, v, rfl, h2.int, s1, e, q _ H (Ex.refl H) hv⟩)
    | _ => cases hf
  | str x =>
    cases d2 with
    | int i =>
      have hf' : (if x.length ≤ sizeLine then (atI x.cps.toList i).map fun c => PyData.str ⟨#[c]⟩ else none) = some d := hf
      by_cases hz : x.length ≤ sizeLine
      · rw [if_pos hz] at hf'
        cases hc : atI x.cps.toList i with
        | none =>
          rw [hc] at hf'
          cases hf'
        | some c =>
          rw [hc] at hf'
          cases hf'
          exact .inr (.inr ⟨x, i, c, h1.str, h2.int, hz, hc, q _ H (Ex.refl H) (.str _)⟩)
      · rw [if_neg hz] at hf'
        cases hf'
    | _ => cases hf
  | _ => cases hf
end

end Rv
namespace Rv
open PySem L2 PySem.Spec PyProof.Rows
/-! The data layer, part 5: slices, displays, calls, tests. -/

section
variable {ι : Type} {X : ι → Cx} {K : PySem.W.Frag} {N : List Str} {k : Nat} {M : List Nat} {a b c e : Expr} {ta tb tc te : TE} {ma mb mc me : En → Option PyData} {pos : Pos}

/-! ### slices -/
def cutD (xs : List PyData) (lo hi : Option Int) : List PyData := (xs.drop (HT.sIx xs.length 0 lo)).take (HT.sIx xs.length xs.length hi - HT.sIx xs.length 0 lo)
theorem dpAll_cut {H : Hp} {xs : List V} {ds : List PyData} (h : DpAll K H xs ds) (lo hi : Option Int) : DpAll K H (cutV xs lo hi) (cutD ds lo hi) := by
  unfold cutV cutD
  rw [dpAll_len h]
  exact dpAll_take _ (dpAll_drop _ h)
def dSl (d : PyData) (lo hi : Option Int) : Option PyData :=
  match d with
  | .list xs => some (.list (cutD xs lo hi))
  | .tuple xs => some (.tuple (cutD xs lo hi))
  | .str z => if z.length ≤ sizeLine then some (.str (cutS z lo hi)) else none
  | _ => none
def rSls (K : PySem.W.Frag) : V → Option Int → Option Int → Hp → VK → Prop := fun x lo hi H Q => rSlL K x lo hi H Q ∨ rSlA K x lo hi H Q ∨ rSlS x lo hi H Q
theorem sl_all {Y : Cx} (hK : Y.K = K) : SlR Y (rSls K) := by
  subst hK
  exact SlR.or sl_list (SlR.or sl_tupA sl_str)
def SndO (K : PySem.W.Frag) (M : List Nat) (t : TO) (m : En → Option (Option Int)) : Prop :=
  ∀ H0 O0 O σ H env o, Sl K M H0 O0 O σ H env → m env = some o → ∀ Q : Option Int → Hp → Prop, (∀ H2, Ex H H2 → Q o H2) → t σ H Q
structure MO {ι : Type} (X : ι → Cx) (K : PySem.W.Frag) (M : List Nat) (e : Option Expr) (t : TO) (m : En → Option (Option Int)) : Prop where
  po : ∀ i, PO (X i) e t
  sd : SndO K M t m
def mNoPart : En → Option (Option Int) := fun _ => some none
def mPart (m : En → Option PyData) : En → Option (Option Int) := fun env => (m env).bind fun d => match d with | .int i => some (some i) | _ => none
theorem o_none : MO X K M none tNoPart mNoPart := ⟨fun _ => po_none, fun H0 O0 O σ H env o s hm Q q => by
  cases hm
  exact q H (Ex.refl H)⟩
theorem o_some (h : MD X K M e te me) : MO X K M (some e) (tPart te) (mPart me) := ⟨fun i => po_some (h.pe i), fun H0 O0 O σ H env o s hm Q q => by
  unfold mPart at hm
  cases hd : me env with
  | none =>
    rw [hd] at hm
    cases hm
  | some d =>
    rw [hd] at hm
    cases d with
    | int i =>
      cases hm
      refine h.sd H0 O0 O σ H env (.int i) s hd _ fun v H2 e hv => ?_
      cases hv
      exact ⟨i, rfl, q H2 e⟩
    | _ => cases hm⟩
theorem bind1 {α β : Type} {x : Option α} {f : α → Option β} {c : β} (h : x.bind f = some c) : ∃ a, x = some a ∧ f a = some c := by
  cases x with
  | none => cases h
  | some a => exact ⟨a, rfl, h⟩
def mSl (m : En → Option PyData) (l h : En → Option (Option Int)) : En → Option PyData := fun env => (m env).bind fun d => (l env).bind fun lo => (h env).bind fun hi => dSl d lo hi
theorem d_sl (F : Fam X K N k) {lo hi : Option Expr} {p2 : Pos} {tl th : TO} {ml mh : En → Option (Option Int)} (ha : MQ X K M a ta ma) (hl : MO X K M lo tl ml) (hh : MO X K M hi th mh) : MD X K M (.Subscript a (.Slice lo hi none p2) pos) (tSl (rSls K) ta tl th) (mSl ma ml mh) :=
  ⟨fun i => pe_slice (sl_all (F.hK i)) (ha.pe i) (hl.po i) (hh.po i), fun H0 O0 O σ H env d s hm Q q => by
    obtain ⟨d1, h1, hm⟩ := bind1 hm
    obtain ⟨l, u, h2, h3, h4⟩ := bind2 hm
    · refine ha.sd H0 O0 O σ H env d1 s h1 _ fun x H1 e1 hx => ?_
      refine hl.sd H0 O0 O σ H1 env l (s.ex e1) h2 _ fun H2 e2 => ?_
      refine hh.sd H0 O0 O σ H2 env u ((s.ex e1).ex e2) h3 _ fun H3 e3 => ?_
      have s3 := ((s.ex e1).ex e2).ex e3
      have hx3 := (hx.ex e2).ex e3
      have e13 := (e1.trans e2).trans e3
      cases d1 with
      | list ds =>
        cases h4
        obtain ⟨p, vs, rfl, s1, a1⟩ := hx3.list
        exact .inl ⟨p, vs, rfl, s1, fun p' hp => q _ _ (e13.trans (Ex.new hp)) (new_list s3.there hp (dpAll_cut a1 _ _))⟩
      | tuple ds =>
        cases h4
        obtain ⟨p, vs, rfl, s1, a1, c1⟩ := hx3.tuple
        refine .inr (.inl ⟨p, vs, rfl, s1, fun hw => q _ _ e13 ?_, fun _ p' hp => q _ _ (e13.trans (Ex.new hp)) (new_tup s3.there hp (dpAll_cut a1 _ _))⟩)
        have ew : cutV vs l u = vs := by
          unfold cutV
          rw [hw.1, hw.2]
          simp
        have := dpAll_cut a1 l u
        rw [ew] at this
        exact .tup c1 this
      | str z =>
        obtain ⟨hz, e⟩ := ite_some h4
        subst e
        exact .inr (.inr ⟨z, hx3.str, hz, q _ _ e13 (.str _)⟩)
      | _ => cases h4⟩

/-! ### argument lists -/
def mNil : En → Option (List PyData) := fun _ => some []
def mCons (m : En → Option PyData) (ms : En → Option (List PyData)) : En → Option (List PyData) := fun env => (m env).bind fun d => (ms env).bind fun ds => some (d :: ds)
theorem a_nil : MA X K M [] tNil mNil := ⟨fun _ => pa_nil, fun H0 O0 O σ H env ds s hm Q q => by
  cases hm
  exact q [] H (Ex.refl H) .nil⟩
theorem a_cons {es : List Expr} {tr : TA} {mr : En → Option (List PyData)} (h : MD X K M e te me) (hr : MA X K M es tr mr) (hs : ∀ i, starEach (e :: es) (X i).env = (false, eval e (X i).env) :: starEach es (X i).env := by exact fun _ => rfl) : MA X K M (e :: es) (tCons te tr) (mCons me mr) :=
  ⟨fun i => pa_cons (h.pe i) (hr.pa i) (hs i), fun H0 O0 O σ H env ds s hm Q q => by
    obtain ⟨d, r, h1, h2, h3⟩ := bind2 hm
    cases h3
    refine h.sd H0 O0 O σ H env d s h1 _ fun x H1 e1 hx => ?_
    exact hr.sd H0 O0 O σ H1 env r (s.ex e1) h2 _ fun xs H2 e2 hxs => q _ H2 (e1.trans e2) (.cons (dp_ex (cut_mono e2) hx) hxs)⟩
inductive DqAll (K : PySem.W.Frag) (H : Hp) (O : List Addr) : List V → List PyData → Prop
  | nil : DqAll K H O [] []
  | cons {v : V} {vs : List V} {d : PyData} {ds : List PyData} : Dq K H O v d → DqAll K H O vs ds → DqAll K H O (v :: vs) (d :: ds)
structure MB {ι : Type} (X : ι → Cx) (K : PySem.W.Frag) (M : List Nat) (es : List Expr) (t : TA) (m : En → Option (List PyData)) : Prop where
  pa : ∀ i, PA (X i) es t
  sd : ∀ H0 O0 O σ H env ds, Sl K M H0 O0 O σ H env → m env = some ds → ∀ Q : List V → Hp → Prop, (∀ vs H2, Ex H H2 → DqAll K H2 O vs ds → Q vs H2) → t σ H Q
theorem b_nil : MB X K M [] tNil mNil := ⟨fun _ => pa_nil, fun H0 O0 O σ H env ds s hm Q q => by
  cases hm
  exact q [] H (Ex.refl H) .nil⟩
theorem b_cons {es : List Expr} {tr : TA} {mr : En → Option (List PyData)} (h : MQ X K M e te me) (hr : MB X K M es tr mr) (hs : ∀ i, starEach (e :: es) (X i).env = (false, eval e (X i).env) :: starEach es (X i).env := by exact fun _ => rfl) : MB X K M (e :: es) (tCons te tr) (mCons me mr) :=
  ⟨fun i => pa_cons (h.pe i) (hr.pa i) (hs i), fun H0 O0 O σ H env ds s hm Q q => by
    obtain ⟨d, r, h1, h2, h3⟩ := bind2 hm
    cases h3
    refine h.sd H0 O0 O σ H env d s h1 _ fun x H1 e1 hx => ?_
    exact hr.sd H0 O0 O σ H1 env r (s.ex e1) h2 _ fun xs H2 e2 hxs => q _ H2 (e1.trans e2) (.cons (hx.ex e2) hxs)⟩

/-! ### displays -/
def mTup (ms : En → Option (List PyData)) : En → Option PyData := fun env => (ms env).bind fun ds => if ds.length ≤ sizeLine then some (.tuple ds) else none
def mLst (ms : En → Option (List PyData)) : En → Option PyData := fun env => (ms env).bind fun ds => if ds.length ≤ sizeLine then some (.list ds) else none
theorem d_tup {es : List Expr} {x1 : Nat} {t : TA} {ms : En → Option (List PyData)} (h : MA X K M es t ms) : MD X K M (.Tuple es x1 pos) (tTup t) (mTup ms) := ⟨fun i => pe_tup (h.pa i), fun H0 O0 O σ H env d s hm Q q => by
  obtain ⟨ds, h1, h2⟩ := bind1 hm
  obtain ⟨hz, e⟩ := ite_some h2
  subst e
  exact h.sd H0 O0 O σ H env ds s h1 _ fun vs H1 e1 hv => ⟨by rw [dpAll_len hv]; exact hz, fun p hp => q _ _ (e1.trans (Ex.new hp)) (new_tup (s.ex e1).there hp hv)⟩⟩
theorem d_lst {es : List Expr} {t : TA} {ms : En → Option (List PyData)} (h : MA X K M es t ms) : MD X K M (.List es pos) (tLst t) (mLst ms) := ⟨fun i => pe_lst (h.pa i), fun H0 O0 O σ H env d s hm Q q => by
  obtain ⟨ds, h1, h2⟩ := bind1 hm
  obtain ⟨hz, e⟩ := ite_some h2
  subst e
  exact h.sd H0 O0 O σ H env ds s h1 _ fun vs H1 e1 hv => ⟨by rw [dpAll_len hv]; exact hz, fun p hp => q _ _ (e1.trans (Ex.new hp)) (new_list (s.ex e1).there hp hv)⟩⟩
/-- [a, ..] * n -/
def mRep (ms : En → Option (List PyData)) (mn : En → Option PyData) : En → Option PyData := fun env => (ms env).bind fun ds => (mn env).bind fun n => match n with
  | .int j => if ds.length ≤ sizeLine ∧ -(2 ^ 63) ≤ j ∧ j < 2 ^ 63 ∧ ds.length * j.toNat ≤ sizeLine then some (.list (List.replicate j.toNat ds).flatten) else none
  | _ => none
theorem d_rep {es : List Expr} {t : TA} {ms : En → Option (List PyData)} {p1 : Pos} (h : MA X K M es t ms) (hb : MD X K M b tb mb) : MD X K M (.BinOp (.List es p1) .Mult b pos) (tOp rRep (tLst t) tb) (mRep ms mb) := ⟨fun i => pe_op op_rep (pe_lst (h.pa i)) (hb.pe i), fun H0 O0 O σ H env d s hm Q q => by
  obtain ⟨ds, n, h1, h2, h3⟩ := bind2 hm
  cases n with
  | int j =>
    obtain ⟨⟨z0, z1, z2, z3⟩, e⟩ := ite_some h3
    subst e
    refine h.sd H0 O0 O σ H env ds s h1 _ fun vs H1 e1 hv => ⟨by rw [dpAll_len hv]; exact z0, fun p hp => ?_⟩
    have s1 := s.ex (e1.trans (Ex.new (thing := .lst vs) hp))
    refine hb.sd H0 O0 O σ _ env (.int j) s1 h2 _ fun y H2 e2 hy => ?_
    cases hy
    refine ⟨p, j, vs, rfl, rfl, e2 _ _ upd_same, z1, z2, by rw [dpAll_len hv]; exact z3, fun p' hp' => q _ _ ((e1.trans (Ex.new hp)).trans (e2.trans (Ex.new hp'))) ?_⟩
    exact new_list (s1.ex e2).there hp' (dpAll_rep _ (dpAll_ex (cut_mono ((Ex.new hp).trans e2)) hv))
  | _ => cases h3⟩

/-! ### calls of built-ins -/
def CrD (K : PySem.W.Frag) (r : List V → Hp → VK → Prop) (f : List PyData → Option PyData) : Prop :=
  ∀ (H : Hp) (O : List Addr) vs ds d, (∀ l ∈ O, ∃ o, H l = some o) → DqAll K H O vs ds → f ds = some d → ∀ Q : VK, (∀ v H2, Ex H H2 → Dp K (cut H2 O) v d → Q v H2) → r vs H Q
def mCB (f : List PyData → Option PyData) (ms : En → Option (List PyData)) : En → Option PyData := fun env => (ms env).bind f
theorem snd_cb {r : List V → Hp → VK → Prop} {f : List PyData → Option PyData} {es : List Expr} {t : TA} {ms : En → Option (List PyData)} (hf : CrD K r f) (h : MB X K M es t ms) : Snd K M (tCB r t) (mCB f ms) := fun H0 O0 O σ H env d s hm Q q => by
  obtain ⟨ds, h1, h2⟩ := bind1 hm
  exact h.sd H0 O0 O σ H env ds s h1 _ fun vs H1 e1 hv => hf H1 O vs ds d (s.ex e1).there hv h2 Q fun v H2 e2 hv => q v H2 (e1.trans e2) hv
theorem d_cb {id : String} {x : Str} {p : Pos} {es : List Expr} {r : List V → Hp → VK → Prop} {f : List PyData → Option PyData} {t : TA} {ms : En → Option (List PyData)} (hc : ∀ i, CallR (X i) (.builtin id) r) (hf : CrD K r f) (hm : ∀ i, (X i).mg x = none) (hv : bootBuiltins x = some (.builtin id)) (h : MB X K M (e :: es) t ms)
    (hg : ∀ i, Gl (X i) x := by exact fun _ => rfl) (hn : x ≠ "__name__" := by decide) (hdb : (x == ("__debug__" : Str)) = false := by decide) (he : ∀ i, starEach (e :: es) (X i).env = (false, eval e (X i).env) :: starEach es (X i).env := by exact fun _ => rfl) (hpl : ∀ i, (backTo pos (starEach es (X i).env)).any (·.1) = false := by exact fun _ => rfl) :
    MD X K M (.Call (.Name x p) (e :: es) [] pos) (tCB r t) (mCB f ms) := ⟨fun i => pe_callB (hc i) (hg i) (hm i) hv (h.pa i) hn hdb (he i) (hpl i), snd_cb hf h⟩
theorem d_ty {T : String} {x : Str} {p : Pos} {es : List Expr} {r : List V → Hp → VK → Prop} {f : List PyData → Option PyData} {t : TA} {ms : En → Option (List PyData)} (hc : ∀ i, CallR (X i) (.type T) r) (hf : CrD K r f) (hm : ∀ i, (X i).mg x = none) (hv : bootBuiltins x = some (.type T)) (h : MB X K M (e :: es) t ms)
    (hg : ∀ i, Gl (X i) x := by exact fun _ => rfl) (hn : x ≠ "__name__" := by decide) (hdb : (x == ("__debug__" : Str)) = false := by decide) (he : ∀ i, starEach (e :: es) (X i).env = (false, eval e (X i).env) :: starEach es (X i).env := by exact fun _ => rfl) (hpl : ∀ i, (backTo pos (starEach es (X i).env)).any (·.1) = false := by exact fun _ => rfl) :
    MD X K M (.Call (.Name x p) (e :: es) [] pos) (tCB r t) (mCB f ms) := ⟨fun i => pe_callTy (hc i) (hg i) (hm i) hv (h.pa i) hn hdb (he i) (hpl i), snd_cb hf h⟩

/-! ### calls of defs -/
/-- a def's promise: it answers by f, the owned of its caller are nothing to it -/
def spD (K : PySem.W.Frag) (n : Nat) (f : List PyData → Option PyData) : Sp := fun vs H Q _ => ∃ ds d O, vs.length = n ∧ (∀ l ∈ O, ∃ o, H l = some o) ∧ DpAll K (cut H O) vs ds ∧ f ds = some d ∧ ∀ v H2, Ex H H2 → Dp K (cut H2 O) v d → Q v H2
theorem mA_len {es : List Expr} : ∀ {t : TA} {ms : En → Option (List PyData)}, MA X K M es t ms → True := fun _ => trivial
theorem d_call {j : Nat} {f : Addr} {fd : FuncData} {ps : List Str} {x : Str} {p : Pos} {es : List Expr} {fn : List PyData → Option PyData} {t : TA} {ms : En → Option (List PyData)} (G : ∀ i, FnOk (X i).prog (X i).w (X i).K (X i).mg (X i).base CX0 j f fd ps (spD K ps.length fn)) (hr : ∀ i, Room j (X i).A)
    (hm : ∀ i, (X i).mg x = some (.ref f)) (hk : ∀ i, PySem.W.keepIn (X i).K (.ref f) = true) (hb : ∀ i, Binds (X i).K fd ps []) (h : MA X K M (e :: es) t ms) (hl : ∀ env ds, ms env = some ds → ds.length = ps.length)
    (hg : ∀ i, Gl (X i) x := by exact fun _ => rfl) (hdb : (x == ("__debug__" : Str)) = false := by decide) (he : ∀ i, starEach (e :: es) (X i).env = (false, eval e (X i).env) :: starEach es (X i).env := by exact fun _ => rfl) (hpl : ∀ i, (backTo pos (starEach es (X i).env)).any (·.1) = false := by exact fun _ => rfl) :
    MD X K M (.Call (.Name x p) (e :: es) [] pos) (tCall (spD K ps.length fn) [] E0 t) (mCB fn ms) :=
  ⟨fun i => pe_call (G i) (hr i) (hg i) (hm i) (hk i) (hb i) .nil pass0 (h.pa i) hdb (he i) (hpl i), fun H0 O0 O σ H env d s hmm Q q => by
    obtain ⟨ds, h1, h2⟩ := bind1 hmm
    refine h.sd H0 O0 O σ H env ds s h1 _ fun vs H1 e1 hv => ?_
    refine ⟨ds, d, O, by rw [List.append_nil, dpAll_len hv]; exact hl env ds h1, (s.ex e1).there, by rw [List.append_nil]; exact hv, h2, fun v H2 e2 h3 => q v H2 (e1.trans e2) h3⟩⟩

/-! ### truth -/
def truD : PyData → Option Bool
  | .none => some false
  | .bool b => some b
  | .int i => some (i != 0)
  | .str x => if x.length ≤ sizeLine then some ((x.length : Int) != 0) else none
  | .list xs => some (!xs.isEmpty)
  | .tuple xs => some (!xs.isEmpty)
  | .dict _ => none
theorem empty_dp {H : Hp} {xs : List V} {ds : List PyData} (h : DpAll K H xs ds) : xs.isEmpty = ds.isEmpty := by
  cases h <;> rfl
theorem tru_dp {H : Hp} {v : V} {d : PyData} {b : Bool} (h : Dp K H v d) (hb : truD d = some b) : TruV K v H b := by
  cases h with
  | non => cases hb; rfl
  | bl x => cases hb; rfl
  | int i => cases hb; rfl
  | str x =>
    obtain ⟨hz, e⟩ := ite_some hb
    subst e
    exact ⟨hz, rfl⟩
  | lst hs ha =>
    cases hb
    exact .inl ⟨_, hs, by rw [empty_dp ha]⟩
  | tup hs ha =>
    cases hb
    exact .inr (.inl ⟨_, hs, by rw [empty_dp ha]⟩)
def mNot (m : En → Option PyData) : En → Option PyData := fun env => (m env).bind fun d => (truD d).bind fun b => some (.bool (!b))
theorem d_not (F : Fam X K N k) (h : MQ X K M e te me) : MD X K M (.UnaryOp .Not e pos) (tNotT K te) (mNot me) := ⟨fun i => by
  have := pe_notT (pos := pos) (h.pe i)
  rw [F.hK i] at this
  exact this, fun H0 O0 O σ H env d s hm Q q => by
  obtain ⟨d1, h1, h2⟩ := bind1 hm
  obtain ⟨b, h3, h4⟩ := bind1 h2
  cases h4
  exact h.sd H0 O0 O σ H env d1 s h1 _ fun v H1 e1 hv => ⟨b, tru_dp hv.dp h3, q _ H1 e1 (.bl _)⟩⟩
def mAnd (ma mb : En → Option PyData) : En → Option PyData := fun env => (ma env).bind fun d => (truD d).bind fun b => if b = true then mb env else some d
def mOr (ma mb : En → Option PyData) : En → Option PyData := fun env => (ma env).bind fun d => (truD d).bind fun b => if b = true then some d else mb env
theorem d_one {op : BoolOp} (h : MD X K M e te me) : MD X K M (.BoolOp op [e] pos) te me := ⟨fun i => pe_one (h.pe i), h.sd⟩
theorem d_and (F : Fam X K N k) {rest : List Expr} (ha : MD X K M a ta ma) (hb : MD X K M (.BoolOp .And (b :: rest) pos) tb mb) : MD X K M (.BoolOp .And (a :: b :: rest) pos) (tAndT K ta tb) (mAnd ma mb) := ⟨fun i => by
  have := pe_andT (ha.pe i) (hb.pe i)
  rw [F.hK i] at this
  exact this, fun H0 O0 O σ H env d s hm Q q => by
  obtain ⟨d1, h1, h2⟩ := bind1 hm
  obtain ⟨c, h3, h4⟩ := bind1 h2
  refine ha.sd H0 O0 O σ H env d1 s h1 _ fun v H1 e1 hv => ⟨c, tru_dp (dp_ex cut_ex hv) h3, ?_⟩
  cases c with
  | true =>
    rw [if_pos rfl] at h4 ⊢
    exact hb.sd H0 O0 O σ H1 env d (s.ex e1) h4 Q fun w H2 e2 hw => q w H2 (e1.trans e2) hw
  | false =>
    rw [if_neg Bool.false_ne_true] at h4 ⊢
    cases h4
    exact q v H1 e1 hv⟩
theorem d_or (F : Fam X K N k) {rest : List Expr} (ha : MD X K M a ta ma) (hb : MD X K M (.BoolOp .Or (b :: rest) pos) tb mb) : MD X K M (.BoolOp .Or (a :: b :: rest) pos) (tOrT K ta tb) (mOr ma mb) := ⟨fun i => by
  have := pe_orT (ha.pe i) (hb.pe i)
  rw [F.hK i] at this
  exact this, fun H0 O0 O σ H env d s hm Q q => by
  obtain ⟨d1, h1, h2⟩ := bind1 hm
  obtain ⟨c, h3, h4⟩ := bind1 h2
  refine ha.sd H0 O0 O σ H env d1 s h1 _ fun v H1 e1 hv => ⟨c, tru_dp (dp_ex cut_ex hv) h3, ?_⟩
  cases c with
  | true =>
    rw [if_pos rfl] at h4 ⊢
    cases h4
    exact q v H1 e1 hv
  | false =>
    rw [if_neg Bool.false_ne_true] at h4 ⊢
    exact hb.sd H0 O0 O σ H1 env d (s.ex e1) h4 Q fun w H2 e2 hw => q w H2 (e1.trans e2) hw⟩

/-! ### tests -/
def mTru (m : En → Option PyData) : En → Option Bool := fun env => (m env).bind truD
/-- a test by truth: anything that isn't and, or, not, a comparison -/
theorem t_tru (F : Fam X K N k) (h : MQ X K M e te me) (he : ∀ i whole, isTrue e (X i).env whole = (do let v ← whole; standAt e.pos; holding [v] (truthy v)) := by exact fun _ _ => rfl) : MT X K M e (fun σ H Q => te σ H fun x H' => ∃ k, TruV K x H' k ∧ Q k H') (mTru me) := ⟨fun i => by
  have := pt_truth (h.pe i) (he i)
  rw [F.hK i] at this
  exact this, fun H0 O0 O σ H env b s hm Q q => by
  obtain ⟨d, h1, h2⟩ := bind1 hm
  exact h.sd H0 O0 O σ H env d s h1 _ fun v H1 e1 hv => ⟨b, tru_dp hv.dp h2, q H1 e1⟩⟩
def mAndT (ma mb : En → Option Bool) : En → Option Bool := fun env => (ma env).bind fun b => if b = true then mb env else some false
def mOrT (ma mb : En → Option Bool) : En → Option Bool := fun env => (ma env).bind fun b => if b = true then some true else mb env
def mNotT (ma : En → Option Bool) : En → Option Bool := fun env => (ma env).bind fun b => some (!b)
structure MW {ι : Type} (X : ι → Cx) (K : PySem.W.Frag) (M : List Nat) (e : Expr) (t : TT) (m : En → Option Bool) : Prop where
  pw : ∀ i, PW (X i) e t
  sd : SndT K M t m
theorem w_pt {t : TT} {m : En → Option Bool} (h : MW X K M e t m) : MT X K M e t m := ⟨fun i => PW.pt (h.pw i), h.sd⟩
theorem w_and1 {t : TT} {m : En → Option Bool} (h : MT X K M e t m) : MW X K M (.BoolOp .And [e] pos) t m := ⟨fun i => pw_and1 (h.pt i), h.sd⟩
theorem w_or1 {t : TT} {m : En → Option Bool} (h : MT X K M e t m) : MW X K M (.BoolOp .Or [e] pos) t m := ⟨fun i => pw_or1 (h.pt i), h.sd⟩
theorem w_and {t u : TT} {m n : En → Option Bool} {rest : List Expr} (ha : MT X K M a t m) (hb : MW X K M (.BoolOp .And (b :: rest) pos) u n) : MW X K M (.BoolOp .And (a :: b :: rest) pos) (tAnd t u) (mAndT m n) := ⟨fun i => pw_and (ha.pt i) (hb.pw i), fun H0 O0 O σ H env c s hm Q q => by
  obtain ⟨d, h1, h2⟩ := bind1 hm
  refine ha.sd H0 O0 O σ H env d s h1 _ fun H1 e1 => ?_
  cases d with
  | true =>
    rw [if_pos rfl] at h2 ⊢
    exact hb.sd H0 O0 O σ H1 env c (s.ex e1) h2 Q fun H2 e2 => q H2 (e1.trans e2)
  | false =>
    rw [if_neg Bool.false_ne_true] at h2 ⊢
    cases h2
    exact q H1 e1⟩
theorem w_or {t u : TT} {m n : En → Option Bool} {rest : List Expr} (ha : MT X K M a t m) (hb : MW X K M (.BoolOp .Or (b :: rest) pos) u n) : MW X K M (.BoolOp .Or (a :: b :: rest) pos) (tOr t u) (mOrT m n) := ⟨fun i => pw_or (ha.pt i) (hb.pw i), fun H0 O0 O σ H env c s hm Q q => by
  obtain ⟨d, h1, h2⟩ := bind1 hm
  refine ha.sd H0 O0 O σ H env d s h1 _ fun H1 e1 => ?_
  cases d with
  | true =>
    rw [if_pos rfl] at h2 ⊢
    cases h2
    exact q H1 e1
  | false =>
    rw [if_neg Bool.false_ne_true] at h2 ⊢
    exact hb.sd H0 O0 O σ H1 env c (s.ex e1) h2 Q fun H2 e2 => q H2 (e1.trans e2)⟩
theorem t_not {t : TT} {m : En → Option Bool} (h : MT X K M e t m) : MT X K M (.UnaryOp .Not e pos) (tNot t) (mNotT m) := ⟨fun i => pt_not (h.pt i), fun H0 O0 O σ H env c s hm Q q => by
  obtain ⟨d, h1, h2⟩ := bind1 hm
  cases h2
  exact h.sd H0 O0 O σ H env d s h1 _ fun H1 e1 => q H1 e1⟩
def mIf (mt : En → Option Bool) (ma mb : En → Option PyData) : En → Option PyData := fun env => (mt env).bind fun b => if b = true then ma env else mb env
theorem d_if {t : TT} {m : En → Option Bool} (hc : MT X K M c t m) (ha : MD X K M a ta ma) (hb : MD X K M b tb mb) : MD X K M (.IfExp c a b pos) (tIf t ta tb) (mIf m ma mb) := ⟨fun i => pe_ifExp (hc.pt i) (ha.pe i) (hb.pe i), fun H0 O0 O σ H env d s hm Q q => by
  obtain ⟨x, h1, h2⟩ := bind1 hm
  refine hc.sd H0 O0 O σ H env x s h1 _ fun H1 e1 => ?_
  cases x with
  | true =>
    rw [if_pos rfl] at h2 ⊢
    exact ha.sd H0 O0 O σ H1 env d (s.ex e1) h2 Q fun v H2 e2 hv => q v H2 (e1.trans e2) hv
  | false =>
    rw [if_neg Bool.false_ne_true] at h2 ⊢
    exact hb.sd H0 O0 O σ H1 env d (s.ex e1) h2 Q fun v H2 e2 hv => q v H2 (e1.trans e2) hv⟩
/-- a < b < c -/
def mChain (f g : PyData → PyData → Option PyData) (ma mb mc : En → Option PyData) : En → Option PyData := fun env => (ma env).bind fun a => (mb env).bind fun b => (f a b).bind fun z => match z with
  | .bool true => (mc env).bind fun c => g b c
  | .bool false => some (.bool false)
  | _ => none
theorem d_chain {r r' : R2} {op op' : CmpOp} {f g : PyData → PyData → Option PyData} (ho : ∀ i, OpR (X i) (compareOp op) r) (hf : OpD K r f) (ho' : ∀ i, OpR (X i) (compareOp op') r') (hg : OpD K r' g) (ha : MQ X K M a ta ma) (hb : MQ X K M b tb mb) (hc : MQ X K M c tc mc) (hm : lastMarks [op, op'] [b, c] = false := by with_unfolding_all rfl) :
    MD X K M (.Compare a [op, op'] [b, c] pos) (tChain r r' ta tb tc) (mChain f g ma mb mc) := ⟨fun i => pe_chain (ho i) (ho' i) (ha.pe i) (hb.pe i) (hc.pe i) hm, fun H0 O0 O σ H env d s hmm Q q => by
  obtain ⟨x, y, h1, h2, h3⟩ := bind2 hmm
  obtain ⟨z, h4, h5⟩ := bind1 h3
  refine ha.sd H0 O0 O σ H env x s h1 _ fun v H1 e1 hv => ?_
  refine hb.sd H0 O0 O σ H1 env y (s.ex e1) h2 _ fun w H2 e2 hw => ?_
  have s2 := (s.ex e1).ex e2
  refine hf H2 O v w x y z s2.there (hv.ex e2) hw h4 _ fun u H3 e3 hu => ?_
  cases z with
  | bool bz =>
    cases hu
    refine ⟨bz, rfl, ?_⟩
    cases bz with
    | true =>
      rw [if_pos rfl]
      obtain ⟨dc, h6, h7⟩ := bind1 (show ((mc env).bind fun c => g y c) = some d from h5)
      refine hc.sd H0 O0 O σ H3 env dc (s2.ex e3) h6 _ fun t H4 e4 ht => ?_
      exact hg H4 O w t y dc d ((s2.ex e3).ex e4).there ((hw.ex e3).ex e4) ht h7 Q fun v' H5 e5 h => q v' H5 ((((e1.trans e2).trans e3).trans e4).trans e5) h
    | false =>
      rw [if_neg (show ¬ false = true from Bool.false_ne_true)]
      cases h5
      exact q _ H3 ((e1.trans e2).trans e3) (.bl _)
  | _ => cases h5⟩
/-- -e -/
def dNeg : PyData → Option PyData
  | .int i => some (.int (-i))
  | _ => none
def mUn (f : PyData → Option PyData) (m : En → Option PyData) : En → Option PyData := fun env => (m env).bind f
theorem d_neg (h : MD X K M e te me) : MD X K M (.UnaryOp .USub e pos) (tUn (rU fun i => .int (-i)) te) (mUn dNeg me) := ⟨fun i => pe_un un_neg (h.pe i), fun H0 O0 O σ H env d s hm Q q => by
  obtain ⟨d1, h1, h2⟩ := bind1 hm
  refine h.sd H0 O0 O σ H env d1 s h1 _ fun v H1 e1 hv => ?_
  cases hv with
  | int i =>
    cases h2
    exact ⟨i, rfl, q _ H1 e1 (.int _)⟩
  | _ => cases h2⟩
end

end Rv
namespace Rv
open PySem L2 PySem.Spec PyProof.Rows
/-! The data layer, part 6: what is walked, comprehensions, statements. -/

/-- J walks things that read as ds while the heap outside the owned stays (b: and the owned do) -/
def Wk (K : PySem.W.Frag) (O : List Addr) (J : It) (H : Hp) (ds : List PyData) (b : Bool) : Prop := ∀ (H' : Hp) (O' : List Addr), Ex (cut H O) (cut H' O') → (∀ l ∈ O', ∃ o, H' l = some o) → (b = true → ∀ l ∈ O, ∀ o, H l = some o → H' l = some o) →
  ∀ i, (∀ d, ds[i]? = some d → J.go i H' ∧ ∀ x H'', J.yld i H' x H'' → Ex H' H'' ∧ Dp K (cut H'' O') x d) ∧ (ds.length = i → J.stop i H')
structure MI {ι : Type} (X : ι → Cx) (K : PySem.W.Frag) (M : List Nat) (tg e : Expr) (wi : TI) (m : En → Option (List PyData)) (b : Bool) : Prop where
  pi : ∀ i, PI (X i) tg e wi
  sd : ∀ H0 O0 O σ H env ds, Sl K M H0 O0 O σ H env → m env = some ds → ∀ R : It → Hp → Prop, (∀ J H2, Ex H H2 → Wk K O J H2 ds b → R J H2) → wi σ H R
theorem Wk.weak {K : PySem.W.Frag} {O : List Addr} {J : It} {H : Hp} {ds : List PyData} (h : Wk K O J H ds false) : Wk K O J H ds true := fun H' O' a c _ => h H' O' a c (fun z => nomatch z)

/-! ### lists, tuples, texts -/
def iSeq (K : PySem.W.Frag) (tl : TE) : TI := fun σ H R => iList K tl σ H R ∨ iTup K tl σ H R ∨ iStr tl σ H R
theorem pi_seq {X : Cx} {K : PySem.W.Frag} (hK : X.K = K) {tg l : Expr} {tl : TE} (hl : PE X l tl) : PI X tg l (iSeq K tl) := by
  subst hK
  refine ⟨fun pins s σ H R I => ?_⟩
  rintro (h | h | h)
  · exact (pi_list hl).run pins s σ H R I h
  · exact (pi_tup hl).run pins s σ H R I h
  · exact (pi_str hl).run pins s σ H R I h
def itemsD : PyData → Option (List PyData)
  | .list xs => some xs
  | .tuple xs => some xs
  | .str word => some (word.cps.toList.map fun c => .str ⟨#[c]⟩)
  | _ => none
section
variable {ι : Type} {X : ι → Cx} {K : PySem.W.Frag} {N : List Str} {k : Nat} {M : List Nat} {a b c e tg : Expr} {ta tb tc te : TE} {ma mb mc me : En → Option PyData} {pos : Pos}
theorem wk_list {H : Hp} {O : List Addr} {p : Addr} {xs : List V} {ds : List PyData} {b : Bool} (hs : ∀ H' O', Ex (cut H O) (cut H' O') → (b = true → ∀ l ∈ O, ∀ o, H l = some o → H' l = some o) → SqL K H' p xs) (ha : DpAll K (cut H O) xs ds) : Wk K O (Itl K p) H ds b := fun H' O' e1 _ e3 i => by
  have hq := hs H' O' e1 e3
  refine ⟨fun d hd => ?_, fun hl => ⟨xs, hq, by rw [dpAll_len ha]; exact Nat.le_of_eq hl⟩⟩
  obtain ⟨v, hv, hd'⟩ := dpAll_get' ha hd
  refine ⟨⟨xs, v, hq, hv⟩, fun x H'' hy => ?_⟩
  obtain ⟨e, hy⟩ := hy
  subst e
  have : x = v := Option.some.inj ((hy xs hq).symm.trans hv)
  subst this
  exact ⟨Ex.refl _, dp_ex e1 hd'⟩
theorem wk_tup {H : Hp} {O : List Addr} {p : Addr} {xs : List V} {ds : List PyData} {b : Bool} (hs : SqT K (cut H O) p xs) (ha : DpAll K (cut H O) xs ds) : Wk K O (Itt K p) H ds b := fun H' O' e1 _ _ i => by
  have hq : SqT K H' p xs := cut_ex.st (e1.st hs)
  refine ⟨fun d hd => ?_, fun hl => ⟨xs, hq, by rw [dpAll_len ha]; exact Nat.le_of_eq hl⟩⟩
  obtain ⟨v, hv, hd'⟩ := dpAll_get' ha hd
  refine ⟨⟨xs, v, hq, hv⟩, fun x H'' hy => ?_⟩
  obtain ⟨e, hy⟩ := hy
  subst e
  have : x = v := Option.some.inj ((hy xs hq).symm.trans hv)
  subst this
  exact ⟨Ex.refl _, dp_ex e1 hd'⟩
theorem wk_str {H : Hp} {O : List Addr} {z : Str} {b : Bool} : Wk K O (Its z) H (z.cps.toList.map fun c => PyData.str ⟨#[c]⟩) b := fun H' O' _ _ _ i => by
  refine ⟨fun d hd => ?_, fun hl => by
    rw [List.length_map, Array.length_toList] at hl
    exact Nat.le_of_eq hl⟩
  rw [List.getElem?_map] at hd
  cases hc : z.cps.toList[i]? with
  | none =>
    rw [hc] at hd
    cases hd
  | some c =>
    rw [hc] at hd
    cases hd
    have hi : i < z.cps.size := by
      have := (List.getElem?_eq_some_iff.mp hc).1
      simpa only [Array.length_toList] using this
    refine ⟨hi, fun x H'' hy => ?_⟩
    obtain ⟨e, c', hc', ex⟩ := hy
    subst e
    have : z.cps.toList[i]? = some c' := by
      rw [Array.getElem?_toList]
      exact hc'
    rw [hc] at this
    cases this
    subst ex
    exact ⟨Ex.refl _, .str _⟩
def mIt (m : En → Option PyData) : En → Option (List PyData) := fun env => (m env).bind itemsD
/-- over anything outside the owned -/
theorem i_seq (F : Fam X K N k) (h : MD X K M e te me) : MI X K M tg e (iSeq K te) (mIt me) false := ⟨fun i => pi_seq (F.hK i) (h.pe i), fun H0 O0 O σ H env ds s hm R q => by
  obtain ⟨d, h1, h2⟩ := bind1 hm
  cases d with
  | list xs =>
    cases h2
    refine .inl (h.sd H0 O0 O σ H env _ s h1 _ fun v H1 e1 hv => ?_)
    cases hv with
    | lst hs ha => exact ⟨_, rfl, ⟨_, cut_ex.sl hs⟩, q _ H1 e1 (wk_list (fun H' O' a _ => cut_ex.sl (a.sl hs)) ha)⟩
  | tuple xs =>
    cases h2
    refine .inr (.inl (h.sd H0 O0 O σ H env _ s h1 _ fun v H1 e1 hv => ?_))
    cases hv with
    | tup hs ha => exact ⟨_, rfl, ⟨_, cut_ex.st hs⟩, q _ H1 e1 (wk_tup hs ha)⟩
  | str z =>
    cases h2
    refine .inr (.inr (h.sd H0 O0 O σ H env _ s h1 _ fun v H1 e1 hv => ?_))
    cases hv; exact ⟨_, rfl, q _ H1 e1 wk_str⟩
  | _ => cases h2⟩
/-- over an own list: in a comprehension -/
theorem i_own (F : Fam X K N k) (h : MQ X K M e te me) : MI X K M tg e (iSeq K te) (mIt me) true := ⟨fun i => pi_seq (F.hK i) (h.pe i), fun H0 O0 O σ H env ds s hm R q => by
  obtain ⟨d, h1, h2⟩ := bind1 hm
  cases d with
  | list xs =>
    cases h2
    refine .inl (h.sd H0 O0 O σ H env _ s h1 _ fun v H1 e1 hv => ?_)
    rcases hv with hv | ⟨l, xs, es, rfl, hl, he, ha⟩
    · cases hv with
      | lst hs ha => exact ⟨_, rfl, ⟨_, cut_ex.sl hs⟩, q _ H1 e1 (wk_list (fun H' O' a _ => cut_ex.sl (a.sl hs)) ha)⟩
    · cases he
      refine ⟨l, rfl, ⟨xs, .inl (.inl hl)⟩, q _ H1 e1 (wk_list (fun H' O' a b => ?_) ha)⟩
      by_cases z : l ∈ O
      · exact .inl (.inl (b rfl l z _ hl))
      · exact .inl (.inl (cut_ex _ _ (a l _ (by rw [cut_out z]; exact hl))))
  | tuple xs =>
    cases h2
    refine .inr (.inl (h.sd H0 O0 O σ H env _ s h1 _ fun v H1 e1 hv => ?_))
    obtain ⟨a, ys, rfl, s1, a1, c1⟩ := hv.tuple
    exact ⟨_, rfl, ⟨_, s1⟩, q _ H1 e1 (wk_tup c1 a1)⟩
  | str z =>
    cases h2
    refine .inr (.inr (h.sd H0 O0 O σ H env _ s h1 _ fun v H1 e1 hv => ?_))
    exact ⟨z, hv.str, q _ H1 e1 wk_str⟩
  | _ => cases h2⟩
theorem i_weak {wi : TI} {m : En → Option (List PyData)} (h : MI X K M tg e wi m false) : MI X K M tg e wi m true := ⟨h.pi, fun H0 O0 O σ H env ds s hm R q => h.sd H0 O0 O σ H env ds s hm R fun J H2 e w => q J H2 e w.weak⟩

/-! ### ranges -/
def rangeD (lo : Int) (n : Nat) : List PyData := (List.range n).map fun (i : Nat) => .int (lo + (i : Int))
theorem wk_range {H : Hp} {O : List Addr} {lo : Int} {n : Nat} {b : Bool} : Wk K O (Itr lo n) H (rangeD lo n) b := fun H' O' _ _ _ i => by
  have hl : (rangeD lo n).length = n := by unfold rangeD; rw [List.length_map, List.length_range]
  refine ⟨fun d hd => ?_, fun h => by rw [hl] at h; exact Nat.le_of_eq h⟩
  have hi : i < n := by
    have := (List.getElem?_eq_some_iff.mp hd).1
    rw [hl] at this
    exact this
  unfold rangeD at hd
  rw [List.getElem?_map, List.getElem?_range hi] at hd
  cases hd
  refine ⟨hi, fun x H'' hy => ?_⟩
  obtain ⟨e, hy⟩ := hy
  subst e
  subst hy
  exact ⟨Ex.refl _, .int _⟩
def rng1 : List PyData → Option (List PyData)
  | [.int j] => if -(2 ^ 62) ≤ j ∧ j < 2 ^ 62 then some (rangeD 0 j.toNat) else none
  | _ => none
def rng2 : List PyData → Option (List PyData)
  | [.int i, .int j] => if -(2 ^ 62) ≤ i ∧ i < 2 ^ 62 ∧ -(2 ^ 62) ≤ j ∧ j < 2 ^ 62 then some (rangeD i (j - i).toNat) else none
  | _ => none
def mRng (f : List PyData → Option (List PyData)) (ms : En → Option (List PyData)) : En → Option (List PyData) := fun env => (ms env).bind f
theorem i_range1 {t : TA} {ms : En → Option (List PyData)} {p : Pos} (hm : ∀ i, (X i).mg "range" = none) (h : MA X K M [a] t ms) (hg : ∀ i, Gl (X i) "range" := by exact fun _ => rfl) (hs : ∀ i, starEach [a] (X i).env = [(false, eval a (X i).env)] := by exact fun _ => rfl) :
    MI X K M tg (.Call (.Name "range" p) [a] [] pos) (iRng1 t) (mRng rng1 ms) false := ⟨fun i => pi_range1 (hg i) (hm i) (h.pa i) (hs i), fun H0 O0 O σ H env ds s hmm R q => by
  obtain ⟨es, h1, h2⟩ := bind1 hmm
  refine h.sd H0 O0 O σ H env es s h1 _ fun vs H1 e1 hv => ?_
  cases hv with
  | nil => cases h2
  | cons hx ht =>
    cases ht with
    | cons _ _ =>
      exfalso
      revert h2
      unfold rng1
      split <;> simp_all
    | nil =>
      cases hx with
      | int j =>
        obtain ⟨hz, e⟩ := ite_some h2
        subst e
        exact ⟨j, rfl, hz.1, hz.2, q _ H1 e1 wk_range⟩
      | _ => cases h2⟩
theorem i_range2 {t : TA} {ms : En → Option (List PyData)} {p : Pos} (hm : ∀ i, (X i).mg "range" = none) (h : MA X K M [a, b] t ms) (hg : ∀ i, Gl (X i) "range" := by exact fun _ => rfl) (hs : ∀ i, starEach [a, b] (X i).env = [(false, eval a (X i).env), (false, eval b (X i).env)] := by exact fun _ => rfl) (hs2 : ∀ i, starEach [b] (X i).env = [(false, eval b (X i).env)] := by exact fun _ => rfl) :
    MI X K M tg (.Call (.Name "range" p) [a, b] [] pos) (iRng2 t) (mRng rng2 ms) false := ⟨fun i => pi_range2 (hg i) (hm i) (h.pa i) (hs i) (hs2 i), fun H0 O0 O σ H env ds s hmm R q => by
  obtain ⟨es, h1, h2⟩ := bind1 hmm
  refine h.sd H0 O0 O σ H env es s h1 _ fun vs H1 e1 hv => ?_
  have two : ∃ i j, es = [.int i, .int j] ∧ (-(2 ^ 62) ≤ i ∧ i < 2 ^ 62 ∧ -(2 ^ 62) ≤ j ∧ j < 2 ^ 62) ∧ rangeD i (j - i).toNat = ds := by
    unfold rng2 at h2
    split at h2
    · rename_i i j
      obtain ⟨hz, e⟩ := ite_some h2
      exact ⟨i, j, rfl, hz, e⟩
    · cases h2
  obtain ⟨i, j, rfl, hz, rfl⟩ := two
  cases hv with
  | cons hx ht =>
    cases ht with
    | cons hy ht =>
      cases ht
      cases hx
      cases hy
      exact ⟨i, j, rfl, hz, q _ H1 e1 wk_range⟩⟩

/-! ### targets -/
structure MG {ι : Type} (X : ι → Cx) (K : PySem.W.Frag) (M : List Nat) (tg : Expr) (g : TG) (b : PyData → En → Option En) : Prop where
  pg : ∀ i, PG (X i) tg g
  sd : SndG K M g b
def gB (i : Nat) : PyData → En → Option En := fun d env => some (env.set i (some d))
theorem g_name (F : Fam X K N k) (i : Nat) {x : Str} (hi : i ∉ M := by decide) (hx : N[i]? = some x := by rfl) (hl : ∀ j, Loc (X j).env.scope x := by first | exact fun _ => Or.inl rfl | exact fun _ => Or.inr rfl) (hf : ∀ j, (X j).fn x = true ∨ (X j).env.scope.names.lookup x = some .local := by first | exact fun _ => .inl rfl | exact fun _ => .inr rfl) :
    MG X K M (.Name x pos) (gName i) (gB i) := ⟨fun j => pg_name (by rw [F.hN j]; exact F.nd) (by rw [F.hN j]; exact hx) (hl j) (hf j), fun H0 O0 O σ H env d env' v s hv hb Q q => by
  cases hb
  exact q _ (s.set hi hv)⟩
structure MGs {ι : Type} (X : ι → Cx) (K : PySem.W.Frag) (M : List Nat) (tgs : List Expr) (g : TGs) (b : List PyData → En → Option En) : Prop where
  pg : ∀ i, PGs (X i) tgs g
  sd : ∀ H0 O0 O σ H env ds env' vs, Sl K M H0 O0 O σ H env → DpAll K (cut H O) vs ds → b ds env = some env' → ∀ Q : L2.St → Hp → Prop, (∀ σ', Sl K M H0 O0 O σ' H env' → Q σ' H) → g vs σ H Q
def gsN : List PyData → En → Option En
  | [], env => some env
  | _, _ => none
def gsC (b : PyData → En → Option En) (bs : List PyData → En → Option En) : List PyData → En → Option En
  | d :: ds, env => (b d env).bind fun e => bs ds e
  | _, _ => none
theorem gs_nil : MGs X K M [] gNil gsN := ⟨fun _ => pgs_nil, fun H0 O0 O σ H env ds env' vs s hv hb Q q => by
  cases hv with
  | nil =>
    cases hb
    exact ⟨rfl, q σ s⟩
  | cons _ _ => cases hb⟩
theorem gs_cons {es : List Expr} {g : TG} {gs : TGs} {b : PyData → En → Option En} {bs : List PyData → En → Option En} (h : MG X K M e g b) (hr : MGs X K M es gs bs) (hs : ∀ i, (assignEach (e :: es) (X i).env).map (·.2) = assign e (X i).env :: (assignEach es (X i).env).map (·.2) := by exact fun _ => rfl) :
    MGs X K M (e :: es) (gCons g gs) (gsC b bs) := ⟨fun i => pgs_cons (h.pg i) (hr.pg i) (hs i), fun H0 O0 O σ H env ds env' vs s hv hb Q q => by
  cases hv with
  | nil => cases hb
  | cons h1 h2 =>
    obtain ⟨e1, h3, h4⟩ := bind1 (show ((b _ env).bind fun e => bs _ e) = some env' from hb)
    exact ⟨_, _, rfl, h.sd H0 O0 O σ H env _ e1 _ s h1 h3 _ fun σ' s' => hr.sd H0 O0 O σ' H e1 _ env' _ s' h2 h4 Q q⟩⟩
def gT (n : Nat) (bs : List PyData → En → Option En) : PyData → En → Option En
  | .tuple ds, env => if ds.length = n then bs ds env else none
  | _, _ => none
theorem g_tup (F : Fam X K N k) {es : List Expr} {n q : Nat} {gs : TGs} {bs : List PyData → En → Option En} (h : MGs X K M es gs bs) (hn : ∀ i, (assignEach es (X i).env).length = n := by exact fun _ => rfl) (hst : ∀ i, (assignEach es (X i).env).findIdx? (·.1) = none := by exact fun _ => rfl) :
    MG X K M (.Tuple es q pos) (gTup K n gs) (gT n bs) := ⟨fun i => by
  have := pg_tup (k := q) (pos := pos) (F.calm i) (h.pg i) (hn i) (hst i)
  rw [F.hK i] at this
  exact this, fun H0 O0 O σ H env d env' v s hv hb Q q => by
  cases hv with
  | tup hs ha =>
    rename_i ds
    have hb2 : (if ds.length = n then bs ds env else none) = some env' := hb
    by_cases z : ds.length = n
    · rw [if_pos z] at hb2
      exact ⟨_, _, rfl, cut_ex.st hs, by rw [dpAll_len ha]; exact z, h.sd H0 O0 O σ H env _ env' _ s ha hb2 Q q⟩
    · rw [if_neg z] at hb2
      cases hb2
  | _ => cases hb⟩
end

end Rv
namespace Rv
open PySem L2 PySem.Spec PyProof.Rows
/-! The data layer, part 7: comprehensions and statements. -/

section
variable {ι : Type} {X : ι → Cx} {K : PySem.W.Frag} {N : List Str} {k : Nat} {M : List Nat} {a b c e tg : Expr} {ta tb tc te : TE} {ma mb mc me : En → Option PyData} {pos : Pos}

/-! ### comprehensions -/
def wipeD (env : En) : List Nat → En
  | [] => env
  | v :: vs => (wipeD env vs).set v none
theorem Sl.wiped {H0 H : Hp} {O0 O : List Addr} {σ : L2.St} {env : En} (s : Sl K M H0 O0 O σ H env) : ∀ vs : List Nat, Sl K M H0 O0 O (wipe σ vs) H (wipeD env vs)
  | [] => s
  | v :: vs => (Sl.wiped s vs).drop
/-- the list that a comprehension makes -/
def lcD (bind : PyData → En → Option En) (mt : En → Option Bool) (me : En → Option PyData) (env : En) : List PyData → Option (List PyData)
  | [] => some []
  | d :: ds => (bind d env).bind fun env1 => (mt env1).bind fun b => if b = true then (me env1).bind fun x => (lcD bind mt me env ds).bind fun r => some (x :: r) else lcD bind mt me env ds
def mLc (vs : List Nat) (mi : En → Option (List PyData)) (bind : PyData → En → Option En) (mt : En → Option Bool) (me : En → Option PyData) : En → Option PyData := fun env => (mi env).bind fun ds => (lcD bind mt me (wipeD env vs) ds).bind fun r => if r.length ≤ sizeLine then some (.list r) else none
/-- a target leaves all but the slots vs -/
def Keeps (g : TG) (vs : List Nat) : Prop := ∀ x σ H Q Q', (∀ σ' H', wipe σ' vs = wipe σ vs → Q σ' H' → Q' σ' H') → g x σ H Q → g x σ H Q'
theorem lcD_cons {bind : PyData → En → Option En} {mt : En → Option Bool} {me : En → Option PyData} {env : En} {d : PyData} {ds r : List PyData} (h : lcD bind mt me env (d :: ds) = some r) :
    ∃ env1 b, bind d env = some env1 ∧ mt env1 = some b ∧ ((b = true ∧ ∃ x r', me env1 = some x ∧ lcD bind mt me env ds = some r' ∧ r = x :: r') ∨ (b = false ∧ lcD bind mt me env ds = some r)) := by
  obtain ⟨env1, h1, h2⟩ := bind1 (show ((bind d env).bind _) = some r from h)
  obtain ⟨b, h3, h4⟩ := bind1 h2
  refine ⟨env1, b, h1, h3, ?_⟩
  cases b with
  | true =>
    rw [if_pos rfl] at h4
    obtain ⟨x, r', h5, h6, h7⟩ := bind2 h4
    cases h7
    exact .inl ⟨rfl, x, r', h5, h6, rfl⟩
  | false =>
    rw [if_neg Bool.false_ne_true] at h4
    exact .inr ⟨rfl, h4⟩
theorem cut_cons {H : Hp} {O : List Addr} {D : Addr} {o : HO} (h : H D = none) : cut (upd H D o) (D :: O) = cut H O := by
  funext a
  by_cases z : a ∈ O
  · rw [cut_in (List.mem_cons_of_mem _ z), cut_in z]
  · by_cases y : a = D
    · subst y
      rw [cut_in List.mem_cons_self, cut_out z, h]
    · rw [cut_out (by simp only [List.mem_cons, not_or]; exact ⟨y, z⟩), cut_out z, upd_ne y]
theorem snd_lc {vs : List Nat} {wi : TI} {mi : En → Option (List PyData)} {g : TG} {bind : PyData → En → Option En} {tt : TT} {mt : En → Option Bool}
    (hi : ∀ H0 O0 O σ H env ds, Sl K M H0 O0 O σ H env → mi env = some ds → ∀ R : It → Hp → Prop, (∀ J H2, Ex H H2 → Wk K O J H2 ds true → R J H2) → wi σ H R)
    (hg : SndG K M g bind) (hk : ∀ x σ H (Q : L2.St → Hp → Prop), g x (wipe σ vs) H Q → g x (wipe σ vs) H fun σ2 H2 => wipe σ2 vs = wipe σ vs ∧ Q σ2 H2) (ht : SndT K M tt mt) (he : Snd K M te me) : Snd K M (tLc wi g tt te vs) (mLc vs mi bind mt me) := fun H0 O0 O σ H env d s hm Q q => by
  obtain ⟨ds, h1, h2⟩ := bind1 hm
  obtain ⟨r, h3, h4⟩ := bind1 h2
  obtain ⟨hz, e⟩ := ite_some h4
  subst e
  refine hi H0 O0 O σ H env ds s h1 _ fun J H1 e1 wk D hD => ?_
  have s1 := s.ex e1
  have nD : D ∉ O := s1.new hD
  -- the slots over a heap with the new list, owned
  have up : ∀ H', Ex (cut H1 O) (cut H' (D :: O)) → (∀ l ∈ O, ∀ o, H1 l = some o → H' l = some o) → (∃ acc, H' D = some (.lst acc)) → Sl K M H0 O0 (D :: O) (wipe σ vs) H' (wipeD env vs) := fun H' x1 x2 x3 => by
    have xx : Ex H1 H' := fun a o q => by
      by_cases z : a ∈ O
      · exact x2 a z o q
      · exact cut_ex _ _ (x1 a o (by rw [cut_out z]; exact q))
    have s2 := (Sl.wiped (s1.ex xx) vs)
    refine ⟨s2.ext, fun l h => ?_, fun l h => List.mem_cons_of_mem _ (s2.sub l h), fun l h => ?_, fun i d' h n => ?_, fun i d' h n => ?_, s2.inj, s2.len⟩
    · rcases List.mem_cons.mp h with z | z
      · subst z
        exact .inr (s1.ext.free hD)
      · exact s2.fresh l z
    · rcases List.mem_cons.mp h with z | z
      · subst z
        obtain ⟨acc, q⟩ := x3
        exact ⟨_, q⟩
      · exact s2.there l z
    · obtain ⟨v, g1, g2⟩ := (Sl.wiped s1 vs).sh i d' h n
      exact ⟨v, g1, dp_ex x1 g2⟩
    · obtain ⟨l, o, g1, g2, g3, g5, g6⟩ := (Sl.wiped s1 vs).ow i d' h n
      exact ⟨l, o, g1, List.mem_cons_of_mem _ g2, g3, x2 l g2 _ g5, g6.ex x1⟩
  refine ⟨fun i m H' => i ≤ ds.length ∧ m = ds.length - i ∧ Ex (cut H1 O) (cut H' (D :: O)) ∧ (∀ l ∈ O, ∀ o, H1 l = some o → H' l = some o) ∧ ∃ acc rs rest, H' D = some (.lst acc) ∧ DpAll K (cut H' (D :: O)) acc rs ∧ lcD bind mt me (wipeD env vs) (ds.drop i) = some rest ∧ rs ++ rest = r,
    ⟨ds.length, Nat.zero_le _, rfl, ?_, ?_, [], [], r, upd_same, .nil, h3, rfl⟩, fun i m H' w => ?_⟩
  · rw [cut_cons hD]
    exact Ex.refl _
  · intro l hl o ho
    rw [upd_ne fun (z : l = D) => by rw [z, hD] at ho; cases ho]
    exact ho
  · obtain ⟨hil, rfl, x1, x2, acc, rs, rest, y1, y2, y3, y4⟩ := w
    have s3 := up H' x1 x2 ⟨acc, y1⟩
    have xx : Ex H1 H' := fun a o q => by
      by_cases z : a ∈ O
      · exact x2 a z o q
      · exact cut_ex _ _ (x1 a o (by rw [cut_out z]; exact q))
    have hw := wk H' (D :: O) x1 s3.there (fun _ l hl o ho => x2 l hl o ho) i
    by_cases hlt : i < ds.length
    · have hdi : ds[i]? = some ds[i] := List.getElem?_eq_getElem hlt
      obtain ⟨go, yl⟩ := hw.1 _ hdi
      rw [List.drop_eq_getElem_cons hlt] at y3
      obtain ⟨env1, b, z1, z2, z3⟩ := lcD_cons y3
      refine .inr ⟨go, fun H2 => i + 1 ≤ ds.length ∧ Ex (cut H1 O) (cut H2 (D :: O)) ∧ (∀ l ∈ O, ∀ o, H1 l = some o → H2 l = some o) ∧ ∃ acc rs rest, H2 D = some (.lst acc) ∧ DpAll K (cut H2 (D :: O)) acc rs ∧ lcD bind mt me (wipeD env vs) (ds.drop (i + 1)) = some rest ∧ rs ++ rest = r, fun H2 p => ⟨ds.length - (i + 1), by omega, p.1, rfl, p.2⟩, fun x H2 hy => ?_⟩
      obtain ⟨e2, hx⟩ := yl x H2 hy
      refine hk x σ H2 _ ?_
      refine hg H0 O0 (D :: O) (wipe σ vs) H2 (wipeD env vs) ds[i] env1 x (s3.ex e2) hx z1 _ fun σ2 s4 => ?_
      refine ht H0 O0 (D :: O) σ2 H2 env1 b s4 z2 _ fun H3 e3 => ?_
      have s5 := s4.ex e3
      have e23 := e2.trans e3
      have accLen : acc.length < sizeLine ∨ b = false := by
        rcases z3 with ⟨_, x', r', _, z5, z6⟩ | ⟨z4, _⟩
        · left
          have l1 := dpAll_len y2
          have l2 : (rs ++ rest).length = r.length := by rw [y4]
          rw [List.length_append, z6, List.length_cons] at l2
          omega
        · exact .inr z4
      rcases z3 with ⟨z4, x', r', z5, z6, z7⟩ | ⟨z4, z5⟩
      · subst z4
        rw [if_pos rfl]
        refine he H0 O0 (D :: O) σ2 H3 env1 x' s5 z5 _ fun y H4 e4 hy4 => ?_
        have e24 := e23.trans e4
        have hD4 : H4 D = some (.lst acc) := e24 _ _ y1
        have ec : cut (upd H4 D (.lst (acc ++ [y]))) (D :: O) = cut H4 (D :: O) := cut_write List.mem_cons_self
        refine ⟨acc, hD4, accLen.resolve_right (fun z => by cases z), by omega, ?_, fun l hl o ho => ?_, acc ++ [y], rs ++ [x'], r', upd_same, ?_, z6, by rw [List.append_assoc]; rw [z7] at y4; exact y4⟩
        · rw [ec]
          exact x1.trans (cut_mono e24)
        · rw [upd_ne fun (z : l = D) => nD (by rw [← z]; exact hl)]
          exact e24 _ _ (x2 l hl o ho)
        · rw [ec]
          exact dpAll_app (dpAll_ex (cut_mono e24) y2) (.cons hy4 .nil)
      · subst z4
        rw [if_neg (show ¬ false = true from Bool.false_ne_true)]
        exact ⟨by omega, x1.trans (cut_mono e23), fun l hl o ho => e23 _ _ (x2 l hl o ho), acc, rs, rest, e23 _ _ y1, dpAll_ex (cut_mono e23) y2, z5, y4⟩
    · have hle : ds.length ≤ i := by omega
      refine .inl ⟨hw.2 (by omega), q _ H' (e1.trans xx) ?_⟩
      rw [List.drop_of_length_le hle] at y3
      cases y3
      rw [List.append_nil] at y4
      subst y4
      have xD : Ex (cut H' (D :: O)) (cut H' O) := cut_less fun a h => List.mem_cons_of_mem _ h
      exact .lst (.inl (.inl (by rw [cut_out nD]; exact y1))) (dpAll_ex xD y2)
end

end Rv
namespace Rv
open PySem L2 PySem.Spec PyProof.Rows
/-! The data layer, part 8: blocks, statements, defs. -/

/-- a comprehension's blocks over a family -/
structure BI (ι : Type) where
  i : ι
  s : Shared
  H : Hp
  C : Addr
  cl : List (Str × Addr)
  fp : List Addr
abbrev blkF {ι : Type} (X : ι → Cx) (scope : Scope) : BI ι → Cx := fun p => (X p.i).blk p.s p.H scope (compEnvC scope p.cl p.C (X p.i).env) p.fp
section
variable {ι : Type} {X : ι → Cx} {K : PySem.W.Frag} {N : List Str} {k : Nat} {M : List Nat} {a b c e tg : Expr} {ta tb tc te : TE} {ma mb mc me : En → Option PyData} {pos : Pos}
theorem Fam.blk (F : Fam X K N k) (scope : Scope) : Fam (blkF X scope) K N k := ⟨fun p => F.hK p.i, fun p => F.calm p.i, fun p => F.room p.i, fun p => F.hN p.i, F.nd⟩
theorem sc_blk {sc scope : Scope} (h : ∀ i, (X i).env.scope = sc) : ∀ p, (blkF X scope p).env.scope = relS scope sc := fun p => by
  show relS scope (X p.i).env.scope = relS scope sc
  rw [h p.i]
theorem wipe_set {σ : L2.St} {j : Nat} {x : Option V} : ∀ {vs : List Nat}, j ∈ vs → wipe (σ.set j x) vs = wipe σ vs
  | v :: vs, h => by
    unfold wipe
    by_cases z : j ∈ vs
    · rw [wipe_set z]
    · have e : j = v := (List.mem_cons.mp h).resolve_right z
      subst e
      have out : ∀ ws : List Nat, j ∉ ws → wipe (σ.set j x) ws = (wipe σ ws).set j x := fun ws => by
        induction ws with
        | nil => exact fun _ => rfl
        | cons w ws ih =>
          intro hw
          have hn : j ≠ w := fun q => hw (by rw [q]; exact List.mem_cons_self)
          show (wipe (σ.set j x) ws).set w none = ((wipe σ ws).set w none).set j x
          rw [ih fun q => hw (List.mem_cons_of_mem _ q), List.set_comm _ _ hn]
      rw [out vs z, List.set_set]
theorem wipe_wipe {σ : L2.St} (vs : List Nat) : wipe (wipe σ vs) vs = wipe σ vs := by
  have h : ∀ (ws : List Nat), (∀ w ∈ ws, w ∈ vs) → wipe (wipe σ ws) vs = wipe σ vs := fun ws => by
    induction ws with
    | nil => exact fun _ => rfl
    | cons w ws ih =>
      intro hw
      show wipe ((wipe σ ws).set w none) vs = wipe σ vs
      rw [wipe_set (hw w List.mem_cons_self), ih fun v hv => hw v (List.mem_cons_of_mem _ hv)]
  exact h vs fun _ z => z
/-- a target that stores into the slots vs alone -/
def GK (vs : List Nat) (g : TG) : Prop := ∀ x σ H (Q : L2.St → Hp → Prop), g x σ H Q → g x σ H fun σ2 H2 => wipe σ2 vs = wipe σ vs ∧ Q σ2 H2
def GKs (vs : List Nat) (g : TGs) : Prop := ∀ xs σ H (Q : L2.St → Hp → Prop), g xs σ H Q → g xs σ H fun σ2 H2 => wipe σ2 vs = wipe σ vs ∧ Q σ2 H2
theorem gk_name {vs : List Nat} {j : Nat} (h : j ∈ vs := by decide) : GK vs (gName j) := fun x σ H Q q => ⟨wipe_set h, q⟩
theorem gk_nil {vs : List Nat} : GKs vs gNil := fun xs σ H Q q => ⟨q.1, rfl, q.2⟩
theorem GK.mono {vs : List Nat} {g : TG} (h : ∀ x σ H (Q Q' : L2.St → Hp → Prop), (∀ σ' H', Q σ' H' → Q' σ' H') → g x σ H Q → g x σ H Q') : True := trivial
theorem gk_cons1 {vs : List Nat} {j : Nat} {gs : TGs} (h : j ∈ vs) (hs : GKs vs gs) : GKs vs (gCons (gName j) gs) := fun xs σ H Q q => by
  obtain ⟨v, r, e, q⟩ := q
  refine ⟨v, r, e, ?_⟩
  have q' : gs r (σ.set j (some v)) H Q := q
  have := hs r (σ.set j (some v)) H Q q'
  rw [wipe_set h] at this
  exact this
theorem gk_tup {vs : List Nat} {n : Nat} {gs : TGs} (hs : GKs vs gs) : GK vs (gTup K n gs) := fun x σ H Q q => by
  obtain ⟨a, xs, e, h1, h2, q⟩ := q
  exact ⟨a, xs, e, h1, h2, hs xs σ H Q q⟩
structure MTs {ι : Type} (X : ι → Cx) (K : PySem.W.Frag) (M : List Nat) (es : List Expr) (t : TT) (m : En → Option Bool) : Prop where
  pt : ∀ i, PTs (X i) es t
  sd : SndT K M t m
def mYes : En → Option Bool := fun _ => some true
theorem ts_nil : MTs X K M [] tYes mYes := ⟨fun _ => pts_nil, fun H0 O0 O σ H env b s hm Q q => by
  cases hm
  exact q H (Ex.refl H)⟩
theorem ts_one {t : TT} {m : En → Option Bool} (h : MT X K M e t m) : MTs X K M [e] t m := ⟨fun i => pts_one (h.pt i), h.sd⟩
theorem d_lc (F : Fam X K N k) {iter : Expr} {ifs : List Expr} {scope sc : Scope} (own : List (Str × Nat)) {wi : TI} {mi : En → Option (List PyData)} {g : TG} {bind : PyData → En → Option En} {tt : TT} {mt : En → Option Bool}
    (hi : MI X K M tg iter wi mi true) (hsc : ∀ i, (X i).env.scope = sc) (ok : BlkOk N sc scope own) (hg : MG (blkF X scope) K M tg g bind) (hk : GK (own.map (·.2)) g) (ht : MTs (blkF X scope) K M ifs tt mt) (he : MD (blkF X scope) K M e te me) (hs : ∀ i x, foldedSetIterable iter (X i).env x = pure x := by exact fun _ _ => rfl) :
    MD X K M (.ListComp e [⟨tg, iter, ifs, 0⟩] scope pos) (tLc wi g tt te (own.map (·.2))) (mLc (own.map (·.2)) mi bind mt me) :=
  ⟨fun i => pe_lc (F.calm i) (by rw [F.hN i]; exact F.nd) (hi.pi i) (by rw [F.hN i, hsc i]; exact ok) (fun s H C cl fp => hg.pg ⟨i, s, H, C, cl, fp⟩) (fun s H C cl fp => ht.pt ⟨i, s, H, C, cl, fp⟩) (fun s H C cl fp => he.pe ⟨i, s, H, C, cl, fp⟩) (hs i),
    snd_lc hi.sd hg.sd (fun x σ H Q q => by
      have := hk x (wipe σ (own.map (·.2))) H Q q
      rw [wipe_wipe] at this
      exact this) ht.sd he.sd⟩

/-! ### statements -/
structure MS {ι : Type} (X : ι → Cx) (K : PySem.W.Frag) (M : List Nat) (st : Stmt) (t : TS) (m : En → Option Fl) : Prop where
  ps : ∀ i, PS (X i) st t
  sd : SndS K M t m
structure MSs {ι : Type} (X : ι → Cx) (K : PySem.W.Frag) (M : List Nat) (sts : List Stmt) (t : TS) (m : En → Option Fl) : Prop where
  ps : ∀ i, PSs (X i) sts t
  sd : SndS K M t m
def mNext : En → Option Fl := fun env => some (.nx env)
theorem ss_nil : MSs X K M [] tNext mNext := ⟨fun _ => pss_nil, fun H0 O0 O σ H env fl D s hm q => by
  cases hm
  exact q σ H O s (Ex.refl _)⟩
def mSeq (m n : En → Option Fl) : En → Option Fl := fun env => (m env).bind fun f => match f with
  | .nx env' => n env'
  | f => some f
theorem Cont.weaken {H0 H H1 : Hp} {O0 O O1 : List Addr} {D : Ends} {fl : Fl} (e : Ex (cut H O) (cut H1 O1)) (h : Cont K M H0 O0 O H D fl) : Cont K M H0 O0 O1 H1 D fl := by
  cases fl with
  | nx env => exact fun σ' H' O' s x => h σ' H' O' s (e.trans x)
  | rt d => exact h
  | bk env => exact fun σ' H' O' s x => h σ' H' O' s (e.trans x)
  | ct env => exact fun σ' H' O' s x => h σ' H' O' s (e.trans x)
theorem snd_seq {t u : TS} {m n : En → Option Fl} (h1 : SndS K M t m) (h2 : SndS K M u n) : SndS K M (tSeq t u) (mSeq m n) := fun H0 O0 O σ H env fl D s hm q => by
  obtain ⟨f, g1, g2⟩ := bind1 hm
  cases f with
  | nx env' =>
    exact h1 H0 O0 O σ H env (.nx env') { D with nx := u D } s g1 fun σ' H' O' s' x => h2 H0 O0 O' σ' H' env' fl D s' g2 (q.weaken x)
  | rt d =>
    cases g2
    exact h1 H0 O0 O σ H env (.rt d) { D with nx := u D } s g1 q
  | bk env' =>
    cases g2
    exact h1 H0 O0 O σ H env (.bk env') { D with nx := u D } s g1 q
  | ct env' =>
    cases g2
    exact h1 H0 O0 O σ H env (.ct env') { D with nx := u D } s g1 q
theorem ss_cons {st : Stmt} {rest : List Stmt} {t u : TS} {m n : En → Option Fl} (h1 : MS X K M st t m) (h2 : MSs X K M rest u n) : MSs X K M (st :: rest) (tSeq t u) (mSeq m n) := ⟨fun i => pss_cons (h1.ps i) (h2.ps i), snd_seq h1.sd h2.sd⟩
theorem ss_one {st : Stmt} {t : TS} {m : En → Option Fl} (h1 : MS X K M st t m) : MSs X K M [st] t m := ⟨fun i => pss_one (h1.ps i), h1.sd⟩
def mRet (m : En → Option PyData) : En → Option Fl := fun env => (m env).bind fun d => some (.rt d)
theorem s_ret (h : MD X K M e te me) : MS X K M (.Return (some e) pos) (tRet te) (mRet me) := ⟨fun i => ps_ret (h.pe i), fun H0 O0 O σ H env fl D s hm q => by
  obtain ⟨d, g1, g2⟩ := bind1 hm
  cases g2
  exact h.sd H0 O0 O σ H env d s g1 _ fun v H2 e hv => q v H2 (s.ext.trans e) (dp_ex (cut_less fun a ha => s.sub a ha) hv)⟩
/-- return x, an own list -/
theorem s_retO (i : Nat) (hi : i ∈ M := by decide) (hd : dictS M i = 0 := by decide) (hp : ∀ j, PE (X j) e (tVar i) := by exact fun _ => pv _) : MS X K M (.Return (some e) pos) (tRet (tVar i)) (mRet (mVar i)) := ⟨fun j => ps_ret (hp j), fun H0 O0 O σ H env fl D s hm q => by
  obtain ⟨d, g1, g2⟩ := bind1 hm
  cases g2
  obtain ⟨l, xs, ds, h1, h2, h3, rfl, h5, h6⟩ := s.lst (join_some g1) hi hd
  refine ⟨_, h1, q _ H s.ext ?_⟩
  have x0 : Ex (cut H O) (cut H O0) := cut_less fun a ha => s.sub a ha
  exact .lst (.inl (.inl (by rw [cut_out h3]; exact h5))) (dpAll_ex x0 h6)⟩
def mAsg (m : En → Option PyData) (b : PyData → En → Option En) : En → Option Fl := fun env => (m env).bind fun d => (b d env).bind fun env' => some (.nx env')
theorem snd_asg {g : TG} {b : PyData → En → Option En} (h : Snd K M te me) (hg : SndG K M g b) : SndS K M (tAsg te g) (mAsg me b) := fun H0 O0 O σ H env fl D s hm q => by
  obtain ⟨d, g1, g2⟩ := bind1 hm
  obtain ⟨env', g3, g4⟩ := bind1 g2
  cases g4
  refine h H0 O0 O σ H env d s g1 _ fun v H1 e1 hv => ?_
  exact hg H0 O0 O σ H1 env d env' v (s.ex e1) hv g3 _ fun σ' s' => q σ' H1 O s' (cut_mono e1)
theorem s_asg {g : TG} {b : PyData → En → Option En} (h : MD X K M e te me) (hg : MG X K M tg g b) (hs : ∀ i, swapsWithSole [tg] e pos.line (X i).env = pure false := by exact fun _ => rfl) (hw : ∀ i, swappedStores [tg] e (X i).env = pure none := by exact fun _ => rfl)
    (h1 : ∀ i, (assignEach [tg] (X i).env).map (·.2) = [assign tg (X i).env] := by exact fun _ => rfl) : MS X K M (.Assign [tg] e pos) (tAsg te g) (mAsg me b) := ⟨fun i => ps_asg (h.pe i) (hg.pg i) (hs i) (hw i) (h1 i), snd_asg h.sd hg.sd⟩
theorem s_set (F : Fam X K N k) (i : Nat) {x : Str} {pos' : Pos} (h : MD X K M e te me) (hi : i ∉ M := by decide) (hx : N[i]? = some x := by rfl) (hl : ∀ j, Loc (X j).env.scope x := by first | exact fun _ => Or.inl rfl | exact fun _ => Or.inr rfl) (hs : ∀ j, swapsWith e (some (.Name x pos')) pos.line (X j).env = pure false := by exact fun _ => rfl)
    (hf : ∀ j, (X j).fn x = true ∨ (X j).env.scope.names.lookup x = some .local := by first | exact fun _ => .inl rfl | exact fun _ => .inr rfl) : MS X K M (.Assign [.Name x pos'] e pos) (tAsg te (gName i)) (mAsg me (gB i)) :=
  ⟨fun j => ps_set (by rw [F.hN j]; exact F.nd) (by rw [F.hN j]; exact hx) (hl j) (h.pe j) (hs j) (hf j), snd_asg h.sd fun H0 O0 O σ H env d env' v s hv hb Q q => by
    cases hb
    exact q _ (s.set hi hv)⟩
/-- x = [..] on one line, x a local -/
theorem s_setLc (F : Fam X K N k) (i : Nat) {y : Str} {py spos : Pos} {iter : Expr} {ifs : List Expr} {scope sc : Scope} (own : List (Str × Nat)) {wi : TI} {mi : En → Option (List PyData)} {g : TG} {bind : PyData → En → Option En} {tt : TT} {mt : En → Option Bool}
    (hi : MI X K M tg iter wi mi true) (hsc : ∀ i, (X i).env.scope = sc) (ok : BlkOk N sc scope own) (hg : MG (blkF X scope) K M tg g bind) (hk : GK (own.map (·.2)) g) (ht : MTs (blkF X scope) K M ifs tt mt) (he : MD (blkF X scope) K M e te me)
    (hM : i ∉ M := by decide) (hy : N[i]? = some y := by rfl) (hyl : ∀ j, (X j).env.scope.names.lookup y = some .local := by exact fun _ => rfl) (hsw : ∀ j, swapsWith (.ListComp e [⟨tg, iter, ifs, 0⟩] scope pos) (some (.Name y py)) spos.line (X j).env = pure true := by exact fun _ => sw_true rfl rfl rfl (by decide +kernel)) (hs : ∀ i x, foldedSetIterable iter (X i).env x = pure x := by exact fun _ _ => rfl) :
    MS X K M (.Assign [.Name y py] (.ListComp e [⟨tg, iter, ifs, 0⟩] scope pos) spos) (tAsg (tLc wi g tt te (own.map (·.2))) (gName i)) (mAsg (mLc (own.map (·.2)) mi bind mt me) (gB i)) :=
  ⟨fun j => ps_setLc (F.calm j) (by rw [F.hN j]; exact F.nd) (by rw [F.hN j]; exact hy) (hyl j) (hsw j) (hi.pi j) (by rw [F.hN j, hsc j]; exact ok) (fun s H C cl fp => hg.pg ⟨j, s, H, C, cl, fp⟩) (fun s H C cl fp => ht.pt ⟨j, s, H, C, cl, fp⟩) (fun s H C cl fp => he.pe ⟨j, s, H, C, cl, fp⟩) (hs j),
    snd_asg (snd_lc hi.sd hg.sd (fun x σ H Q q => by
      have := hk x (wipe σ (own.map (·.2))) H Q q
      rw [wipe_wipe] at this
      exact this) ht.sd he.sd) fun H0 O0 O σ H env d env' v s hv hb Q q => by
    cases hb
    exact q _ (s.set hM hv)⟩
/-- a, b = x, y -/
def mPar (i j : Nat) (ms : En → Option (List PyData)) : En → Option Fl := fun env => (ms env).bind fun ds => match ds with
  | [d, f] => some (.nx ((env.set i (some d)).set j (some f)))
  | _ => none
theorem s_par (F : Fam X K N k) (i j : Nat) {x y : Str} {t : TA} {ms : En → Option (List PyData)} {px py pt : Pos} {kt k2 : Nat} {pt2 : Pos} (h : MA X K M [a, b] t ms) (hi : N[i]? = some x := by rfl) (hj : N[j]? = some y := by rfl) (hij : i ≠ j := by decide) (mi : i ∉ M := by decide) (mj : j ∉ M := by decide)
    (hx : ∀ q, (X q).env.scope.names.lookup x = some .local := by exact fun _ => rfl) (hy : ∀ q, (X q).env.scope.names.lookup y = some .local := by exact fun _ => rfl) (hw : ∀ q, swappedStores [.Tuple [.Name x px, .Name y py] kt pt] (.Tuple [a, b] k2 pt2) (X q).env = pure (some [x, y]) := by exact fun _ => rfl)
    (hs : ∀ q, swapsWithSole [.Tuple [.Name x px, .Name y py] kt pt] (.Tuple [a, b] k2 pt2) pos.line (X q).env = pure false := by exact fun _ => rfl) : MS X K M (.Assign [.Tuple [.Name x px, .Name y py] kt pt] (.Tuple [a, b] k2 pt2) pos) (tPar i j t) (mPar i j ms) :=
  ⟨fun q => ps_par (F.calm q) (by rw [F.hN q]; exact F.nd) (by rw [F.hN q]; exact hi) (by rw [F.hN q]; exact hj) hij (hx q) (hy q) (h.pa q) (hw q) (hs q), fun H0 O0 O σ H env fl D s hm q => by
    obtain ⟨ds, g1, g2⟩ := bind1 hm
    refine h.sd H0 O0 O σ H env ds s g1 _ fun vs H1 e1 hv => ?_
    cases hv with
    | nil => cases g2
    | cons h1 ht =>
      cases ht with
      | nil => cases g2
      | cons h2 ht =>
        cases ht with
        | cons _ _ => cases g2
        | nil =>
          cases g2
          exact ⟨_, _, rfl, q _ H1 O (((s.ex e1).set mi h1).set mj h2) (cut_mono e1)⟩⟩
def mIfS (mt : En → Option Bool) (m n : En → Option Fl) : En → Option Fl := fun env => (mt env).bind fun b => if b = true then m env else n env
theorem s_if {t : TT} {u w : TS} {m : En → Option Bool} {n p : En → Option Fl} {bs cs : List Stmt} (hc : MT X K M c t m) (ha : MSs X K M bs u n) (hb : MSs X K M cs w p) : MS X K M (.If c bs cs pos) (tIfS t u w) (mIfS m n p) := ⟨fun i => ps_if (hc.pt i) (ha.ps i) (hb.ps i), fun H0 O0 O σ H env fl D s hm q => by
  obtain ⟨x, g1, g2⟩ := bind1 hm
  refine hc.sd H0 O0 O σ H env x s g1 _ fun H1 e1 => ?_
  cases x with
  | true =>
    rw [if_pos rfl] at g2 ⊢
    exact ha.sd H0 O0 O σ H1 env fl D (s.ex e1) g2 (q.weaken (cut_mono e1))
  | false =>
    rw [if_neg Bool.false_ne_true] at g2 ⊢
    exact hb.sd H0 O0 O σ H1 env fl D (s.ex e1) g2 (q.weaken (cut_mono e1))⟩
/-- x op= e -/
def mAug (i : Nat) (f : PyData → PyData → Option PyData) (m : En → Option PyData) : En → Option Fl := fun env => (mVar i env).bind fun a => (m env).bind fun b => (f a b).bind fun d => some (.nx (env.set i (some d)))
theorem s_aug (F : Fam X K N k) (i : Nat) {x : Str} {op : Operator} {r : R2} {f : PyData → PyData → Option PyData} {pos' : Pos} (ho : ∀ j, PIp (X j) op r) (hf : OpD K r f) (h : MD X K M e te me) (hi : i ∉ M := by decide) (hx : N[i]? = some x := by rfl) (hl : ∀ j, Loc (X j).env.scope x := by first | exact fun _ => Or.inl rfl | exact fun _ => Or.inr rfl)
    (hfn : ∀ j, (X j).fn x = true ∨ (X j).env.scope.names.lookup x = some .local := by first | exact fun _ => .inl rfl | exact fun _ => .inr rfl) : MS X K M (.AugAssign (.Name x pos') op e pos) (tAug i te r) (mAug i f me) :=
  ⟨fun j => ps_aug (by rw [F.hN j]; exact F.nd) (by rw [F.hN j]; exact hx) (hl j) (h.pe j) (ho j) (hfn j), fun H0 O0 O σ H env fl D s hm q => by
    obtain ⟨d1, d2, g1, g2, g3⟩ := bind2 hm
    obtain ⟨d, g4, g5⟩ := bind1 g3
    cases g5
    obtain ⟨v, h1, h2⟩ := s.sh i d1 (join_some g1) hi
    refine ⟨v, h1, h.sd H0 O0 O σ H env d2 s g2 _ fun w H1 e1 hw => ?_⟩
    refine hf H1 O v w d1 d2 d (s.ex e1).there (.inl (dp_ex (cut_mono e1) h2)) (.inl hw) g4 _ fun z H2 e2 hz => ?_
    exact q _ H2 O (((s.ex e1).ex e2).set hi hz) ((cut_mono e1).trans (cut_mono e2))⟩
/-- for -/
def loopD (bind : PyData → En → Option En) (body : En → Option Fl) : List PyData → En → Option Fl
  | [], env => some (.nx env)
  | d :: ds, env => (bind d env).bind fun env1 => (body env1).bind fun f => match f with
    | .nx e => loopD bind body ds e
    | .ct e => loopD bind body ds e
    | .bk e => some (.nx e)
    | .rt r => some (.rt r)
def mFor (mi : En → Option (List PyData)) (bind : PyData → En → Option En) (body : En → Option Fl) : En → Option Fl := fun env => (mi env).bind fun ds => loopD bind body ds env
theorem s_for (F : Fam X K N k) {iter : Expr} {body : List Stmt} {wi : TI} {mi : En → Option (List PyData)} {g : TG} {bind : PyData → En → Option En} {tb : TS} {m : En → Option Fl} (hp : ∀ i, PassesOwn (model (X i).prog (X i).w) (X i).A (X i).env (X i).xe) (hi : MI X K M tg iter wi mi false) (hg : MG X K M tg g bind) (hb : MSs X K M body tb m)
    (hs : ∀ i x, foldedSetIterable iter (X i).env x = pure x := by exact fun _ _ => rfl) : MS X K M (.For tg iter body [] pos) (tFor wi g tb) (mFor mi bind m) := ⟨fun i => ps_for (hp i) (F.calm i) (hi.pi i) (hg.pg i) (hb.ps i) (hs i), fun H0 O0 O σ H env fl D s hm q => by
  obtain ⟨ds, g1, g2⟩ := bind1 hm
  refine hi.sd H0 O0 O σ H env ds s g1 _ fun J H1 e1 wk => ?_
  refine ⟨fun i m' σ' H' => i ≤ ds.length ∧ m' = ds.length - i ∧ ∃ O' env', Sl K M H0 O0 O' σ' H' env' ∧ Ex (cut H1 O) (cut H' O') ∧ loopD bind m (ds.drop i) env' = some fl,
    ⟨ds.length, Nat.zero_le _, rfl, O, env, s.ex e1, Ex.refl _, g2⟩, fun i m' σ' H' w => ?_⟩
  obtain ⟨hil, rfl, O', env', s', x', l'⟩ := w
  have hw := wk H' O' x' s'.there (fun z => nomatch z) i
  by_cases hlt : i < ds.length
  · obtain ⟨go, yl⟩ := hw.1 _ (List.getElem?_eq_getElem hlt)
    rw [List.drop_eq_getElem_cons hlt] at l'
    obtain ⟨env1, z1, z2⟩ := bind1 (show ((bind _ env').bind _) = some fl from l')
    obtain ⟨f, z3, z4⟩ := bind1 z2
    refine .inr ⟨go, fun σ2 H2 => i + 1 ≤ ds.length ∧ ∃ O2 env2, Sl K M H0 O0 O2 σ2 H2 env2 ∧ Ex (cut H1 O) (cut H2 O2) ∧ loopD bind m (ds.drop (i + 1)) env2 = some fl, fun σ2 H2 p => ⟨ds.length - (i + 1), by omega, p.1, rfl, p.2⟩, fun x H2 hy => ?_⟩
    obtain ⟨e2, hx⟩ := yl x H2 hy
    refine hg.sd H0 O0 O' σ' H2 env' ds[i] env1 x (s'.ex e2) hx z1 _ fun σ2 s2 => ?_
    have xx : Ex (cut H1 O) (cut H2 O') := x'.trans (cut_mono e2)
    refine hb.sd H0 O0 O' σ2 H2 env1 f _ s2 z3 ?_
    cases f with
    | nx e => exact fun σ3 H3 O3 s3 x3 => ⟨by omega, O3, e, s3, xx.trans x3, z4⟩
    | ct e => exact fun σ3 H3 O3 s3 x3 => ⟨by omega, O3, e, s3, xx.trans x3, z4⟩
    | bk e =>
      cases z4
      exact fun σ3 H3 O3 s3 x3 => q σ3 H3 O3 s3 (((cut_mono e1).trans xx).trans x3)
    | rt r =>
      cases z4
      exact q
  · have hle : ds.length ≤ i := by omega
    rw [List.drop_of_length_le hle] at l'
    cases l'
    exact .inl ⟨hw.2 (by omega), q σ' H' O' s' ((cut_mono e1).trans x')⟩⟩
theorem s_pass : MS X K M (.Pass pos) tNext mNext := ⟨fun _ => ps_pass, fun H0 O0 O σ H env fl D s hm q => by
  cases hm
  exact q σ H O s (Ex.refl _)⟩
theorem s_continue : MS X K M (.Continue pos) (fun D σ H => D.ct σ H) (fun env => some (.ct env)) := ⟨fun _ => ps_continue, fun H0 O0 O σ H env fl D s hm q => by
  cases hm
  exact q σ H O s (Ex.refl _)⟩
theorem s_break : MS X K M (.Break pos) (fun D σ H => D.bk σ H) (fun env => some (.bk env)) := ⟨fun _ => ps_break, fun H0 O0 O σ H env fl D s hm q => by
  cases hm
  exact q σ H O s (Ex.refl _)⟩

/-! ### own lists -/
/-- x = a new list -/
def SndF (K : PySem.W.Frag) (M : List Nat) (t : TE) (m : En → Option PyData) : Prop :=
  ∀ H0 O0 O σ H env d, Sl K M H0 O0 O σ H env → m env = some d → ∀ Q : VK, (∀ p xs ds H2, H p = none → Ex H H2 → d = .list ds → H2 p = some (.lst xs) → DpAll K (cut H2 (p :: O)) xs ds → Q (.ref p) H2) → t σ H Q
structure MF {ι : Type} (X : ι → Cx) (K : PySem.W.Frag) (M : List Nat) (e : Expr) (t : TE) (m : En → Option PyData) : Prop where
  pe : ∀ i, PE (X i) e t
  sd : SndF K M t m
theorem cut_new' {H : Hp} {O : List Addr} {p : Addr} {o : HO} (hp : H p = none) : Ex (cut H O) (cut (upd H p o) (p :: O)) := by
  rw [cut_cons hp]
  exact Ex.refl _
theorem f_nil : MF X K M (.List [] pos) (tLst tNil) (mLst mNil) := ⟨fun _ => pe_lst pa_nil, fun H0 O0 O σ H env d s hm Q q => by
  have e : PyData.list [] = d := Option.some.inj hm
  subst e
  exact ⟨Nat.zero_le _, fun p hp => q p [] [] _ hp (Ex.new hp) rfl upd_same .nil⟩⟩
theorem s_own (F : Fam X K N k) (i : Nat) {x : Str} {pos' : Pos} (h : MF X K M e te me) (hi : i ∈ M := by decide) (hd : dictS M i = 0 := by decide) (hx : N[i]? = some x := by rfl) (hl : ∀ j, Loc (X j).env.scope x := by first | exact fun _ => Or.inl rfl | exact fun _ => Or.inr rfl) (hs : ∀ j, swapsWith e (some (.Name x pos')) pos.line (X j).env = pure false := by exact fun _ => rfl)
    (hf : ∀ j, (X j).fn x = true ∨ (X j).env.scope.names.lookup x = some .local := by first | exact fun _ => .inl rfl | exact fun _ => .inr rfl) : MS X K M (.Assign [.Name x pos'] e pos) (tAsg te (gName i)) (mAsg me (gB i)) :=
  ⟨fun j => ps_set (by rw [F.hN j]; exact F.nd) (by rw [F.hN j]; exact hx) (hl j) (h.pe j) (hs j) (hf j), fun H0 O0 O σ H env fl D s hm q => by
    obtain ⟨d, g1, g2⟩ := bind1 hm
    obtain ⟨env', g3, g4⟩ := bind1 g2
    cases g3
    cases g4
    refine h.sd H0 O0 O σ H env d s g1 _ fun p xs ds H2 hp e hd hl' ha => ?_
    subst hd
    refine q _ H2 (p :: O) (s.own hi hd hp e hl' ha) fun a o hq => ?_
    by_cases z : a ∈ O
    · rw [cut_in z] at hq
      cases hq
    · rw [cut_out z] at hq
      rw [cut_out (by
        simp only [List.mem_cons, not_or]
        exact ⟨(fun y => by rw [y, hp] at hq; cases hq), z⟩)]
      exact e _ _ hq⟩
/-- x.append(e) -/
def mApp (i : Nat) (m : En → Option PyData) : En → Option Fl := fun env => (mVar i env).bind fun l => (m env).bind fun d => match l with
  | .list ds => if ds.length < sizeLine then some (.nx (env.set i (some (.list (ds ++ [d]))))) else none
  | _ => none
theorem s_app (F : Fam X K N k) (i : Nat) {x : Str} {p1 p2 p3 : Pos} (h : MD X K M e te me) (hi : i ∈ M := by decide)
    (hp : ∀ j, PS (X j) (.Expr (.Call (.Attribute (.Name x p1) "append" p2) [e] [] p3) pos) (tDrop (tBM (X j).K "list" rAppend (tVar i) (tCons te tNil)))) (hd : dictS M i = 0 := by decide) : MS X K M (.Expr (.Call (.Attribute (.Name x p1) "append" p2) [e] [] p3) pos) (tDrop (tBM K "list" rAppend (tVar i) (tCons te tNil))) (mApp i me) :=
  ⟨fun j => by
    have := hp j
    rw [F.hK j] at this
    exact this, fun H0 O0 O σ H env fl D s hm q => by
    obtain ⟨d1, d2, g1, g2, g3⟩ := bind2 hm
    obtain ⟨l, xs, ds, h1, h2, h3, rfl, h5, h6⟩ := s.lst (join_some g1) hi hd
    obtain ⟨hz, e⟩ := ite_some (show (if ds.length < sizeLine then some (Fl.nx (env.set i (some (.list (ds ++ [d2]))))) else none) = some fl from g3)
    subst e
    refine ⟨_, h1, .inl ⟨rfl, xs, .inl (.inl h5)⟩, h.sd H0 O0 O σ H env d2 s g2 _ fun v H1 e1 hv => ?_⟩
    have s1 := s.ex e1
    refine ⟨l, xs, v, rfl, rfl, e1 _ _ h5, by rw [dpAll_len h6]; exact hz, ?_⟩
    refine q σ _ O (s1.write hi hd (join_some g1) h1 h2 h3 (dpAll_app (dpAll_ex (cut_mono e1) h6) (.cons hv .nil))) ?_
    rw [cut_write h2]
    exact cut_mono e1⟩

/-! ### a def -/
def runB (n : Nat) (m : En → Option Fl) : List PyData → Option PyData := fun ds => (m (ds.map some ++ List.replicate (n - ds.length) none)).bind fun f => match f with
  | .nx _ => some .none
  | .rt d => some d
  | _ => none
theorem start_sl {H : Hp} {O : List Addr} {vs : List V} {ds : List PyData} {n : Nat} (ht : ∀ l ∈ O, ∃ o, H l = some o) (h : DpAll K (cut H O) vs ds) (hM : ∀ i ∈ M, vs.length ≤ i) : Sl K M H O O (vs.map some ++ List.replicate (n - vs.length) none) H (ds.map some ++ List.replicate (n - ds.length) none) := by
  have hl := dpAll_len h
  have inv : ∀ i d, (ds.map some ++ List.replicate (n - ds.length) none)[i]? = some (some d) → ds[i]? = some d := fun i d q => by
    by_cases z : i < ds.length
    · rw [List.getElem?_append_left (by rw [List.length_map]; exact z), List.getElem?_map] at q
      cases hd : ds[i]? with
      | none =>
        rw [hd] at q
        cases q
      | some x =>
        rw [hd] at q
        have : some x = some d := Option.some.inj q
        rw [this]
    · rw [List.getElem?_append_right (by rw [List.length_map]; omega), List.getElem?_replicate] at q
      split at q
      · cases q
      · cases q
  refine ⟨Ex.refl H, fun l h => .inl h, fun l h => h, ht, fun i d q _ => ?_, fun i d q hm => ?_, fun i j d e l hm hj q _ _ _ => ?_, by rw [List.length_append, List.length_append, List.length_map, List.length_map, List.length_replicate, List.length_replicate, hl]⟩
  · obtain ⟨v, h1, h2⟩ := dpAll_get' h (inv i d q)
    have hi := (List.getElem?_eq_some_iff.mp h1).1
    exact ⟨v, by rw [List.getElem?_append_left (by rw [List.length_map]; exact hi), List.getElem?_map, h1]; rfl, h2⟩
  · have := (List.getElem?_eq_some_iff.mp (inv i d q)).1
    have := hM i hm
    omega
  · have := (List.getElem?_eq_some_iff.mp (inv i d q)).1
    have := hM i hm
    omega
section
variable {P : Program} {w : World} {mg : Str → Option Value} {base : Heap}
/-- the contexts of a def's body -/
structure DI where
  cdv : Value
  A : Around
  outer : List Env
  s : Shared
  H : Hp
  E : XK
abbrev defF (P : Program) (w : World) (K : PySem.W.Frag) (mg : Str → Option Value) (base : Heap) (N : List Str) (qual : Str) (sc : Scope) (f : Addr) (j : Nat) : {p : DI // Room j (p.A.deeper (envOfC qual sc p.s.heap.objs.size f p.cdv))} → Cx := fun p => (cxOf CX0 P w K mg base N qual sc f p.1.cdv p.1.A p.1.outer p.1.s p.1.H p.1.E).nox
theorem defF_fam {qual : Str} {sc : Scope} {f : Addr} {j : Nat} (nd : N.Nodup) : Fam (defF P w K mg base N qual sc f j) K N j := ⟨fun _ => rfl, fun _ => rfl, fun p => p.2, fun _ => rfl, nd⟩
theorem fn_data {x qual : Str} {st : Stmt} {f : Addr} {fd : FuncData} {ps : List Str} {j : Nat} {t : TS} {m : En → Option Fl} (F : Fun K x qual st f fd) (S : FnScope N ps (defScope st)) (hM : ∀ i ∈ M, ps.length ≤ i) (h : MSs (defF P w K mg base N qual (defScope st) f j) K M (defBody st) t m) :
    FnOk P w K mg base CX0 (j + 1) f fd ps (spD K ps.length (runB N.length m)) := by
  refine F.ok S (fun vs H Q E hq => ?_) fun cdv A outer s H vs Q E hr hq => ?_
  · obtain ⟨ds, d, O, hl, _⟩ := hq
    exact hl
  · obtain ⟨ds, d, O, hl, ht, hv, hf, q⟩ := hq
    refine ⟨t, h.ps ⟨⟨cdv, A, outer, s, H, E⟩, hr⟩, ?_⟩
    obtain ⟨fl, g1, g2⟩ := bind1 hf
    refine h.sd H O O _ H _ fl _ (start_sl (n := N.length) ht hv (by rw [hl]; exact hM)) g1 ?_
    cases fl with
    | nx env =>
      cases g2
      exact fun σ' H' O' s' _ => q _ H' s'.ext .non
    | rt r =>
      cases g2
      exact fun v H' e hv => q v H' e hv
    | bk env => cases g2
    | ct env => cases g2
end
end

end Rv
namespace Rv
open PySem L2 PySem.Spec PyProof.Rows
/-! The data layer, part 9: built-ins on data. -/

section
variable {K : PySem.W.Frag}
theorem dq1 {H : Hp} {O : List Addr} {vs : List V} {d : PyData} (h : DqAll K H O vs [d]) : ∃ v, vs = [v] ∧ Dq K H O v d := by
  cases h with
  | cons h1 h2 =>
    cases h2
    exact ⟨_, rfl, h1⟩
theorem dq2 {H : Hp} {O : List Addr} {vs : List V} {d e : PyData} (h : DqAll K H O vs [d, e]) : ∃ v w, vs = [v, w] ∧ Dq K H O v d ∧ Dq K H O w e := by
  cases h with
  | cons h1 h2 =>
    obtain ⟨w, rfl, h3⟩ := dq1 h2
    exact ⟨_, w, rfl, h1, h3⟩
/-! ### len -/
def bLen : List PyData → Option PyData
  | [.list xs] => some (.int xs.length)
  | [.tuple xs] => some (.int xs.length)
  | [.str x] => if x.length ≤ sizeLine then some (.int x.length) else none
  | _ => none
def rLenA (K : PySem.W.Frag) : List V → Hp → VK → Prop := fun xs H Q => ∃ x n, xs = [x] ∧ LenV K x H n ∧ Q (.int n) H
theorem cr_len {X : Cx} (hK : X.K = K) : CallR X (.builtin "len") (rLenA K) := by
  subst hK
  exact call_len
theorem crd_len : CrD K (rLenA K) bLen := fun H O vs ds d ht h hf Q q => by
  unfold bLen at hf
  split at hf
  · obtain ⟨v, rfl, h1⟩ := dq1 h
    obtain ⟨a, xs, rfl, s1, a1⟩ := h1.list
    cases hf
    exact ⟨_, _, rfl, .inl ⟨xs, s1, (dpAll_len a1).symm⟩, q _ H (Ex.refl H) (.int _)⟩
  · obtain ⟨v, rfl, h1⟩ := dq1 h
    obtain ⟨a, xs, rfl, s1, a1, _⟩ := h1.tuple
    cases hf
    exact ⟨_, _, rfl, .inr ⟨xs, s1, (dpAll_len a1).symm⟩, q _ H (Ex.refl H) (.int _)⟩
  · obtain ⟨v, rfl, h1⟩ := dq1 h
    obtain ⟨hz, e⟩ := ite_some hf
    subst e
    have := h1.str
    subst this
    exact ⟨_, _, rfl, ⟨hz, rfl⟩, q _ H (Ex.refl H) (.int _)⟩
  · cases hf
/-! ### list, tuple -/
def bList : List PyData → Option PyData
  | [.list xs] => some (.list xs)
  | [.tuple xs] => some (.list xs)
  | _ => none
def rListA (K : PySem.W.Frag) : List V → Hp → VK → Prop := fun xs H Q => ∃ p ys, xs = [.ref p] ∧ (SqL K H p ys ∨ SqT K H p ys) ∧ ∀ l, H l = none → Q (.ref l) (upd H l (.lst ys))
theorem cr_list {X : Cx} (hK : X.K = K) : CallR X (.type "list") (rListA K) := by
  subst hK
  exact call_list_of
theorem crd_list : CrD K (rListA K) bList := fun H O vs ds d ht h hf Q q => by
  unfold bList at hf
  split at hf
  · obtain ⟨v, rfl, h1⟩ := dq1 h
    obtain ⟨a, xs, rfl, s1, a1⟩ := h1.list
    cases hf
    exact ⟨a, xs, rfl, .inl s1, fun l hl => q _ _ (Ex.new hl) (new_list ht hl a1)⟩
  · obtain ⟨v, rfl, h1⟩ := dq1 h
    obtain ⟨a, xs, rfl, s1, a1, _⟩ := h1.tuple
    cases hf
    exact ⟨a, xs, rfl, .inr s1, fun l hl => q _ _ (Ex.new hl) (new_list ht hl a1)⟩
  · cases hf
def bTuple : List PyData → Option PyData
  | [.list xs] => some (.tuple xs)
  | [.tuple xs] => some (.tuple xs)
  | _ => none
def rTupleA (K : PySem.W.Frag) : List V → Hp → VK → Prop := fun xs H Q => ∃ p ys, xs = [.ref p] ∧ ((SqL K H p ys ∧ ∀ l, H l = none → Q (.ref l) (upd H l (.tup ys))) ∨ (SqT K H p ys ∧ Q (.ref p) H))
theorem cr_tuple {X : Cx} (hK : X.K = K) : CallR X (.type "tuple") (rTupleA K) := by
  subst hK
  exact call_tuple_of
theorem crd_tuple : CrD K (rTupleA K) bTuple := fun H O vs ds d ht h hf Q q => by
  unfold bTuple at hf
  split at hf
  · obtain ⟨v, rfl, h1⟩ := dq1 h
    obtain ⟨a, xs, rfl, s1, a1⟩ := h1.list
    cases hf
    exact ⟨a, xs, rfl, .inl ⟨s1, fun l hl => q _ _ (Ex.new hl) (new_tup ht hl a1)⟩⟩
  · obtain ⟨v, rfl, h1⟩ := dq1 h
    obtain ⟨a, xs, rfl, s1, a1, c1⟩ := h1.tuple
    cases hf
    exact ⟨a, xs, rfl, .inr ⟨s1, q _ H (Ex.refl H) (.tup c1 a1)⟩⟩
  · cases hf
/-! ### sum, any, all -/
def intsOf : List PyData → Option (List Int)
  | [] => some []
  | .int i :: ds => (intsOf ds).map (i :: ·)
  | _ :: _ => none
def boolsOf : List PyData → Option (List Bool)
  | [] => some []
  | .bool b :: ds => (boolsOf ds).map (b :: ·)
  | _ :: _ => none
theorem intsOf_some : ∀ {ds : List PyData} {ns : List Int}, intsOf ds = some ns → ds = ns.map .int
  | [], ns, h => by cases h; rfl
  | d :: ds, ns, h => by
    cases d with
    | int i =>
      cases hd : intsOf ds with
      | none =>
        rw [intsOf, hd] at h
        cases h
      | some ms =>
        rw [intsOf, hd] at h
        cases h
        rw [intsOf_some hd]
        rfl
    | _ => cases h
theorem boolsOf_some : ∀ {ds : List PyData} {ns : List Bool}, boolsOf ds = some ns → ds = ns.map .bool
  | [], ns, h => by cases h; rfl
  | d :: ds, ns, h => by
    cases d with
    | bool i =>
      cases hd : boolsOf ds with
      | none =>
        rw [boolsOf, hd] at h
        cases h
      | some ms =>
        rw [boolsOf, hd] at h
        cases h
        rw [boolsOf_some hd]
        rfl
    | _ => cases h
theorem intsOf_map (ns : List Int) : intsOf (ns.map .int) = some ns := by
  induction ns with
  | nil => rfl
  | cons n ns ih =>
    show (intsOf (ns.map .int)).map (n :: ·) = _
    rw [ih]
    rfl
theorem boolsOf_map (ns : List Bool) : boolsOf (ns.map .bool) = some ns := by
  induction ns with
  | nil => rfl
  | cons n ns ih =>
    show (boolsOf (ns.map .bool)).map (n :: ·) = _
    rw [ih]
    rfl
def bSum : List PyData → Option PyData
  | [.list xs] => (intsOf xs).map fun ns => .int ns.sum
  | _ => none
theorem cr_sumK {X : Cx} (hK : X.K = K) (hc : X.calm = true) : CallR X (.builtin "sum") (rSum K) := by
  subst hK
  exact cr_sum hc
theorem crd_sum : CrD K (rSum K) bSum := fun H O vs ds d ht h hf Q q => by
  unfold bSum at hf
  split at hf
  · rename_i xs
    obtain ⟨v, rfl, h1⟩ := dq1 h
    obtain ⟨a, ys, rfl, s1, a1⟩ := h1.list
    cases hn : intsOf xs with
    | none =>
      rw [hn] at hf
      cases hf
    | some ns =>
      rw [hn] at hf
      cases hf
      rw [intsOf_some hn] at a1
      have := dpAll_ints a1
      subst this
      exact ⟨a, ns, rfl, s1, q _ H (Ex.refl H) (.int _)⟩
  · cases hf
def bAny : List PyData → Option PyData
  | [.list xs] => (boolsOf xs).map fun ns => .bool (ns.any id)
  | _ => none
def bAll : List PyData → Option PyData
  | [.list xs] => (boolsOf xs).map fun ns => .bool (ns.all id)
  | _ => none
theorem cr_anyK {X : Cx} (hK : X.K = K) (hc : X.calm = true) : CallR X (.builtin "any") (rAny K) := by
  subst hK
  exact cr_any hc
theorem cr_allK {X : Cx} (hK : X.K = K) (hc : X.calm = true) : CallR X (.builtin "all") (rAll K) := by
  subst hK
  exact cr_all hc
theorem crd_any : CrD K (rAny K) bAny := fun H O vs ds d ht h hf Q q => by
  unfold bAny at hf
  split at hf
  · rename_i xs
    obtain ⟨v, rfl, h1⟩ := dq1 h
    obtain ⟨a, ys, rfl, s1, a1⟩ := h1.list
    cases hn : boolsOf xs with
    | none =>
      rw [hn] at hf
      cases hf
    | some ns =>
      rw [hn] at hf
      cases hf
      rw [boolsOf_some hn] at a1
      have := dpAll_bools a1
      subst this
      exact ⟨a, ns, rfl, s1, q _ H (Ex.refl H) (.bl _)⟩
  · cases hf
theorem crd_all : CrD K (rAll K) bAll := fun H O vs ds d ht h hf Q q => by
  unfold bAll at hf
  split at hf
  · rename_i xs
    obtain ⟨v, rfl, h1⟩ := dq1 h
    obtain ⟨a, ys, rfl, s1, a1⟩ := h1.list
    cases hn : boolsOf xs with
    | none =>
      rw [hn] at hf
      cases hf
    | some ns =>
      rw [hn] at hf
      cases hf
      rw [boolsOf_some hn] at a1
      have := dpAll_bools a1
      subst this
      exact ⟨a, ns, rfl, s1, q _ H (Ex.refl H) (.bl _)⟩
  · cases hf
/-! ### min, max of two, int -/
def bMin2 : List PyData → Option PyData
  | [.int i, .int j] => some (.int (if j < i then j else i))
  | _ => none
def rMin2 : List V → Hp → VK → Prop := fun xs H Q => ∃ i j, xs = [.int i, .int j] ∧ Q (.int (if j < i then j else i)) H
theorem crd_min2 : CrD K rMin2 bMin2 := fun H O vs ds d ht h hf Q q => by
  unfold bMin2 at hf
  split at hf
  · obtain ⟨v, w, rfl, h1, h2⟩ := dq2 h
    cases hf
    have e1 := h1.int
    have e2 := h2.int
    subst e1 e2
    exact ⟨_, _, rfl, q _ H (Ex.refl H) (.int _)⟩
  · cases hf
def bMax2 : List PyData → Option PyData
  | [.int i, .int j] => some (.int (if j > i then j else i))
  | _ => none
def rMax2 : List V → Hp → VK → Prop := fun vs H Q => ∃ a b : Int, vs = [.int a, .int b] ∧ Q (.int (if b > a then b else a)) H
theorem crd_max2 : CrD K rMax2 bMax2 := fun H O vs ds d ht h hf Q q => by
  unfold bMax2 at hf
  split at hf
  · obtain ⟨v, w, rfl, h1, h2⟩ := dq2 h
    cases hf
    have e1 := h1.int
    have e2 := h2.int
    subst e1 e2
    exact ⟨_, _, rfl, q _ H (Ex.refl H) (.int _)⟩
  · cases hf
def bInt : List PyData → Option PyData
  | [.int i] => some (.int i)
  | [.bool b] => some (.int (if b then 1 else 0))
  | _ => none
def rIntA : List V → Hp → VK → Prop := fun xs H Q => (∃ i, xs = [.int i] ∧ Q (.int i) H) ∨ ∃ k, xs = [.bl k] ∧ Q (.int (if k then 1 else 0)) H
theorem crd_int : CrD K rIntA bInt := fun H O vs ds d ht h hf Q q => by
  unfold bInt at hf
  split at hf
  · obtain ⟨v, rfl, h1⟩ := dq1 h
    cases hf
    have e1 := h1.int
    subst e1
    exact .inl ⟨_, rfl, q _ H (Ex.refl H) (.int _)⟩
  · obtain ⟨v, rfl, h1⟩ := dq1 h
    cases hf
    have e1 := h1.bool
    subst e1
    exact .inr ⟨_, rfl, q _ H (Ex.refl H) (.int _)⟩
  · cases hf
/-! ### repr -/
def bRepr : List PyData → Option PyData
  | [.bool b] => some (.str (if b then "True" else "False"))
  | [.none] => some (.str "None")
  | _ => none
def rReprA : List V → Hp → VK → Prop := fun xs H Q => (∃ b, xs = [.bl b] ∧ Q (.str (if b then "True" else "False")) H) ∨ (xs = [.non] ∧ Q (.str "None") H)
theorem cr_repr {X : Cx} : CallR X (.builtin "repr") rReprA := fun _ _ _ H vs us _ inv rel wish => by
  rcases wish with ⟨b, rfl, q⟩ | ⟨rfl, q⟩
  · obtain ⟨only, rfl, is⟩ := vals1 rel
    cases is
    exact PySem.P.repr_of_bool ⟨.str _, H, inv.tok _, ⟨_, rfl⟩, q⟩
  · obtain ⟨only, rfl, is⟩ := vals1 rel
    cases is
    exact PySem.P.repr_of_none ⟨.str _, H, inv.tok _, ⟨_, rfl⟩, q⟩
theorem crd_repr : CrD K rReprA bRepr := fun H O vs ds d ht h hf Q q => by
  unfold bRepr at hf
  split at hf
  · obtain ⟨v, rfl, h1⟩ := dq1 h
    cases hf
    have e1 := h1.bool
    subst e1
    exact .inl ⟨_, rfl, q _ H (Ex.refl H) (.str _)⟩
  · obtain ⟨v, rfl, h1⟩ := dq1 h
    cases hf
    have e1 := h1.none
    subst e1
    exact .inr ⟨rfl, q _ H (Ex.refl H) (.str _)⟩
  · cases hf
/-! ### sorted -/
open PySem.W in
def rSortK (K : PySem.W.Frag) : List V → Hp → VK → Prop := fun vs H Q => ∃ (a : Addr) (bs : List (V × PyData)), vs = [.ref a] ∧ (SqL K H a (bs.map Prod.fst) ∨ SqT K H a (bs.map Prod.fst)) ∧ (∀ b ∈ bs, Dp K H b.1 b.2) ∧ AllAlike (bs.map Prod.snd) ∧ Sortable (bs.map Prod.snd) ∧ (∀ b ∈ bs, b.2.depth ≤ 64) ∧
  ∀ p, H p = none → Q (.ref p) (upd H p (.lst ((bs.mergeSort (dataLe false Prod.snd)).map Prod.fst)))
theorem each_vals : ∀ {bs : List (V × PyData)} {its : List Value}, Vals (bs.map Prod.fst) its → PySem.W.EachIs (fun u (b : V × PyData) => RelV b.1 u) its bs
  | [], _, h => by
    cases h
    exact .nil
  | b :: bs, _, h => by
    have h' : Vals (b.1 :: bs.map Prod.fst) _ := h
    cases h' with
    | cons h1 h2 => exact .cons h1 (each_vals h2)
theorem vals_each : ∀ {bs : List (V × PyData)} {its : List Value}, PySem.W.EachIs (fun u (b : V × PyData) => RelV b.1 u) its bs → Vals (bs.map Prod.fst) its
  | _, _, .nil => .nil
  | _, _, .cons h1 h2 => .cons h1 (vals_each h2)
theorem each_and {α β : Type} {R S : α → β → Prop} : ∀ {as : List α} {bs : List β}, PySem.W.EachIs R as bs → (∀ a b, b ∈ bs → R a b → S a b) → PySem.W.EachIs S as bs
  | _, _, .nil, _ => .nil
  | _, _, .cons h1 h2, f => .cons (f _ _ List.mem_cons_self h1) (each_and h2 fun a b hb => f a b (List.mem_cons_of_mem _ hb))
/-! sorted of a tuple -/
section
open PySem.W
variable {P : Program} {w : World} {A : Around} {E : Value → Shared → Prop} {st : Shared}
theorem tup_items {q : Addr} {us : List Value} {Q : List Value → Shared → Prop} (is : IsTup st.heap q us.toArray) (fits : us.length ≤ sizeLine)
    (goal : Q us { st with heap := (st.heap.push (seqObj "list" #[] 0)).update st.heap.objs.size (Obj.mapSeq (· ++ us.toArray)) }) :
    wpAny (model P w) A (collect (.ref q)) Q E st := by
  obtain ⟨ob, at_, kind_, n, data_⟩ := id is
  have at2 : (st.heap.push (seqObj "list" #[] 0)).get? q = some ob := Heap.get?_push_of_some _ at_
  have new_ : (st.heap.push (seqObj "list" #[] 0)).get? st.heap.objs.size = some (seqObj "list" #[] 0) := Heap.get?_push_size _ rfl
  have both : (#[] : Array Value) ++ us.toArray = us.toArray := by simp
  have small : ((#[] : Array Value) ++ us.toArray).size ≤ sizeLine + 1 := by
    rw [both, List.size_toArray]
    omega
  unfold collect
  apply wpAny_bind
  apply wpAny_runValue
  apply codeAny_builtin entry_proto_collect'
  show wpAny _ _ (do
    again (.builtin "list.__iadd__" ⟨[← newList [], .ref q], []⟩)) _ _ st
  apply wpAny_bind
  refine wpAny_newList ?_
  apply wpAny_pure
  refine ⟨Code.quiet_builtin _ (by decide +kernel), codeAny_builtin entry_list_iadd' ?_⟩
  show wpAny _ _ (Builtin.List.listExtendWith (.ref st.heap.objs.size) (.ref q) (.ref st.heap.objs.size)) _ _ { st with heap := st.heap.push (seqObj "list" #[] 0) }
  (unfold Builtin.List.listExtendWith)
  apply wpAny_bind
  refine wpAny_typeOf (T := "tuple") ⟨ob, at2, kind_⟩ ?_
  have yes : (Value.type "tuple" == Value.type "tuple") = true := rfl
  rw [if_pos (by
    rw [yes]
    simp)]
  apply wpAny_bind
  refine listItems_at at2 data_ ?_
  apply wpAny_bind
  refine listItems_at (xs := #[]) (n := 0) new_ rfl ?_
  rw [if_neg (by simp)]
  apply wpAny_bind
  refine listUpdate_at (xs := #[]) (n := 0) new_ rfl ?_ (Nat.zero_le _) small
  apply wpAny_pure
  show wpAny (model P w) A (do
    let ob ← load st.heap.objs.size
    match ob.data with
      | .seq xs _ => pure xs.toList
      | _ => unsupported "internal:collect") Q E _
  apply wpAny_bind
  refine wpAny_load (get?_update_seq new_ _) ?_
  show wpAny _ _ (pure ((#[] : Array Value) ++ us.toArray).toList) Q E _
  rw [both]
  exact wpAny_pure goal
theorem tup_sorted {β : Type} {R : Value → β → Prop} {enc : β → PyData} {q : Addr} {us : List Value} {bs : List β} {Q : Value → Shared → Prop} (is : IsTup st.heap q us.toArray) (e : EachIs R us bs) (er : EachIs (fun v b => ∃ as, Reads st.heap v (enc b) as) us bs)
    (same : AllAlike (bs.map enc)) (ord : Sortable (bs.map enc)) (few : bs.length ≤ sizeLine) (flat : ∀ b, b ∈ bs → A.units + 2 + (enc b).depth < cLine)
    (goal : ∀ out, EachIs R out (bs.mergeSort (dataLe false enc)) → Q (.ref (st.heap.objs.size + 1)) { st with heap := sortedAll st.heap us (List.toArray out) }) :
    wpAny (model P w) A (call (.builtin "sorted") [.ref q]) Q E st := by
  have few2 : us.length ≤ sizeLine := by
    rw [e.length]
    exact few
  have late : EachIs (fun v b => ∃ as, Reads (sortingHeap (copyHeap st.heap us) (st.heap.objs.size + 1) us) v (enc b) as) us bs := er.mono fun _ _ z => by
    obtain ⟨as, r⟩ := z
    exact ⟨as, PyProof.Rows.Reads.keeps (fun _ _ => sorting_copy_old) r⟩
  have sorts := SortsAt.data (prog := P) (w := w) (A := A.in1.in1) (s := { st with heap := sortingHeap (copyHeap st.heap us) (st.heap.objs.size + 1) us }) (each_map (R := fun v d => ∃ as, Reads (sortingHeap (copyHeap st.heap us) (st.heap.objs.size + 1) us) v d as) enc late) same ord (bound_map flat)
  have grown : ((st.heap.push (seqObj "list" #[] 0)).update st.heap.objs.size (Obj.mapSeq (· ++ us.toArray))).objs.size = st.heap.objs.size + 1 := by
    rw [Heap.size_update]
    exact size_push' _ _
  refine Calls.call_function_entry kind_sorted plain_sorted entry_sorted (args_sorted1 (.ref q)) ?_
  unfold Builtin.«sorted»
  apply wpAny_bind (m := checkCount "sorted" 1 1 _)
  apply wpAny_pure
  apply wpAny_bind
  refine tup_items is few2 ?_
  apply wpAny_bind
  refine wpAny_newList ?_ few2
  show wpAny _ _ _ _ _ { st with heap := copyHeap st.heap us }
  rw [grown]
  apply wpAny_bind
  apply wpAny_holding
  refine wpAny_call_entry slot_list_sort ⟨_, copyHeap_at st.heap us, rfl⟩ entry_list_sort ?_ (args_list_sort _)
  refine list_sort_vals (s := { st with heap := copyHeap st.heap us }) (copyHeap_at st.heap us) sorts few2 ⟨_, rfl, ?_⟩
  apply wpAny_pure
  exact ⟨_, rfl, goal _ (sortVals_data false e late same)⟩
end
theorem cr_sortK {X : Cx} (hK : X.K = K) (hu : X.A.units + 70 < cLine) : CallR X (.builtin "sorted") (rSortK K) := by
  subst hK
  refine fun _ st _ H vs us _ inv rel wish => ?_
  obtain ⟨a, bs, rfl, there, reads, same, ord, flat, next⟩ := wish
  obtain ⟨only, rfl, is⟩ := vals1 rel
  cases is
  have fin : ∀ (its out : List Value), bs.length ≤ sizeLine → PySem.W.EachIs (fun u (b : V × PyData) => RelV b.1 u) out (bs.mergeSort (PySem.W.dataLe false Prod.snd)) → ∃ x H', Inv X _ _ H' { st with heap := sortedAll st.heap its out.toArray } ∧ RelV x (.ref (st.heap.objs.size + 1)) ∧ _ := fun its out few is => by
    obtain ⟨n, laid⟩ := PyProof.Rows.sortedAll_at st.heap its out.toArray
    have okNew : (((bs.mergeSort (PySem.W.dataLe false Prod.snd)).map Prod.fst).length ≤ sizeLine) := by
      simp only [List.length_map, List.length_mergeSort]
      exact few
    have inv2 := inv.laid (o := .lst ((bs.mergeSort (PySem.W.dataLe false Prod.snd)).map Prod.fst)) (t' := st.toks) (fun _ _ q => PyProof.Rows.sortedAll_old (vs := its) (out := out.toArray) q) (Nat.le_succ _) ⟨okNew, out, n, vals_each is, laid⟩
    exact ⟨.ref (st.heap.objs.size + 1), _, inv2, rfl, next _ (inv.hok.fresh (Nat.le_succ _))⟩
  rcases there with there | there
  · obtain ⟨its, rv, plain, size⟩ := inv.list there
    have each := each_vals rv
    have few : bs.length ≤ sizeLine := by simpa only [List.length_map] using size
    have readsEach := each_and (S := fun u (b : V × PyData) => ∃ as, Reads st.heap u b.2 as) each fun u b hm hr => Dp.reads inv b.2 b.1 u (reads b hm) hr
    refine PySem.W.sorted_data (R := fun u (b : V × PyData) => RelV b.1 u) (enc := Prod.snd) plain.isList each readsEach same ord few (fun b hm => by
      have := flat b hm
      omega) fun out _ is => fin its out few is
  · obtain ⟨its, rv, plain, size⟩ := inv.tuple there
    have each := each_vals rv
    have few : bs.length ≤ sizeLine := by simpa only [List.length_map] using size
    have readsEach := each_and (S := fun u (b : V × PyData) => ∃ as, Reads st.heap u b.2 as) each fun u b hm hr => Dp.reads inv b.2 b.1 u (reads b hm) hr
    refine tup_sorted (R := fun u (b : V × PyData) => RelV b.1 u) (enc := Prod.snd) plain each readsEach same ord few (fun b hm => by
      have := flat b hm
      omega) fun out is => fin its out few is
def depthOk (ds : List PyData) : Bool := ds.all fun d => decide (d.depth ≤ 64)
instance (ds : List PyData) : Decidable (PySem.W.AllAlike ds) := by unfold PySem.W.AllAlike; infer_instance
def srtB (ds : List PyData) : Bool := (ds.all fun d => match d with | .tuple (_ :: _) => true | _ => false) || (ds.all fun d => match d with | .tuple _ => false | .none => false | _ => true)
theorem srtB_ok {ds : List PyData} (h : srtB ds = true) : PySem.W.Sortable ds := by
  unfold srtB at h
  rw [Bool.or_eq_true] at h
  rcases h with h | h
  · refine .inl fun d hd => ?_
    have one := List.all_eq_true.mp h d hd
    split at one
    · exact ⟨_, _, rfl⟩
    · cases one
  · refine .inr fun d hd => ?_
    have one := List.all_eq_true.mp h d hd
    split at one
    · cases one
    · cases one
    · rename_i h1 h2
      exact ⟨fun z => h2 z, fun xs z => h1 xs z⟩
def sortL (xs : List PyData) : Option PyData := if PySem.W.AllAlike xs ∧ srtB xs = true ∧ depthOk xs = true then some (.list (xs.mergeSort (PySem.W.dataLe false id))) else none
def bSorted : List PyData → Option PyData
  | [.list xs] => sortL xs
  | [.tuple xs] => sortL xs
  | _ => none
theorem zip_fst {H : Hp} {xs : List V} {ds : List PyData} (h : DpAll K H xs ds) : (xs.zip ds).map Prod.fst = xs ∧ (xs.zip ds).map Prod.snd = ds ∧ ∀ b ∈ xs.zip ds, Dp K H b.1 b.2 := by
  induction xs generalizing ds with
  | nil =>
    cases h
    exact ⟨rfl, rfl, fun _ z => nomatch z⟩
  | cons x xs ih =>
    cases h with
    | cons h1 h2 =>
      obtain ⟨a, b, c⟩ := ih h2
      refine ⟨by rw [List.zip_cons_cons, List.map_cons, a], by rw [List.zip_cons_cons, List.map_cons, b], fun z hz => ?_⟩
      rw [List.zip_cons_cons] at hz
      rcases List.mem_cons.mp hz with q | q
      · subst q
        exact h1
      · exact c z q
theorem dpAll_of_zip {H : Hp} : ∀ (bs : List (V × PyData)), (∀ b ∈ bs, Dp K H b.1 b.2) → DpAll K H (bs.map Prod.fst) (bs.map Prod.snd)
  | [], _ => .nil
  | b :: bs, h => .cons (h b List.mem_cons_self) (dpAll_of_zip bs fun c hc => h c (List.mem_cons_of_mem _ hc))
theorem crd_sorted : CrD K (rSortK K) bSorted := fun H O vs ds d ht h hf Q q => by
  have go : ∀ (a : Addr) (ys : List V) (xs : List PyData), (SqL K H a ys ∨ SqT K H a ys) → DpAll K (cut H O) ys xs → sortL xs = some d → rSortK K [.ref a] H Q := fun a ys xs s1 a1 hf => by
    obtain ⟨⟨c1, c2, c3⟩, e⟩ := ite_some hf
    subst e
    obtain ⟨z1, z2, z3⟩ := zip_fst a1
    refine ⟨a, ys.zip xs, rfl, by rw [z1]; exact s1, fun b hb => dp_ex cut_ex (z3 b hb), by rw [z2]; exact c1, by rw [z2]; exact srtB_ok c2, fun b hb => ?_, fun p hp => q _ _ (Ex.new hp) (new_list ht hp ?_)⟩
    · have : b.2 ∈ xs := by
        rw [← z2]
        exact List.mem_map.mpr ⟨b, hb, rfl⟩
      exact of_decide_eq_true (List.all_eq_true.mp c3 _ this)
    · have e2 : xs.mergeSort (PySem.W.dataLe false id) = ((ys.zip xs).mergeSort (PySem.W.dataLe false Prod.snd)).map Prod.snd := by
        have := PySem.W.sort_maps (r := PySem.W.dataLe false Prod.snd) (s := PySem.W.dataLe false id) (Prod.snd : V × PyData → PyData) (l := ys.zip xs) (fun _ _ _ _ => rfl)
        rw [this, z2]
      rw [e2]
      exact dpAll_of_zip _ fun b hb => z3 b (List.mem_mergeSort.mp hb)
  unfold bSorted at hf
  split at hf
  · obtain ⟨v, rfl, h1⟩ := dq1 h
    obtain ⟨a, ys, rfl, s1, a1⟩ := h1.list
    exact go a ys _ (.inl s1) a1 hf
  · obtain ⟨v, rfl, h1⟩ := dq1 h
    obtain ⟨a, ys, rfl, s1, a1, _⟩ := h1.tuple
    exact go a ys _ (.inr s1) a1 hf
  · cases hf
end

end Rv
namespace Rv
open PySem L2 PySem.Spec PyProof.Rows
/-! The data layer, part A: in, isinstance, methods, ranges as lists, enumerate. -/

section
variable {K : PySem.W.Frag}
/-! ### in -/
def rInT (K : PySem.W.Frag) (neg : Bool) : R2 := fun x y H Q => ∃ d ds, Dp K H x d ∧ (Dp K H y (.list ds) ∨ Dp K H y (.tuple ds)) ∧ SeqAt.shaped d = true ∧ SeqAt.shaped (.list ds) = true ∧ Q (.bl (xor neg (ds.any fun z => PyData.eqv z d))) H
theorem op_inT {X : Cx} (hK : X.K = K) (hu : X.A.units + 65 < cLine) : OpR X (compareOp .In) (rInT K false) := by
  subst hK
  refine fun _ st _ H x y v u _ inv rx ry ⟨d1, items, p1, p2, s1, s2, wish⟩ => ?_
  obtain ⟨as, reads1⟩ := Dp.reads inv d1 x v p1 rx
  have lay1 := SeqAt.canLay_of_shaped s1
  have lay2 : PyData.canLayAll0 items = true := SeqAt.canLay_of_shaped s2
  have done : EP X _ _ _ (Value.bool (items.any fun z => PyData.eqv z d1)) st := ⟨.bl _, H, inv, rfl, (Bool.false_xor _) ▸ wish⟩
  rcases p2 with p2 | p2
  · obtain ⟨bs, reads2⟩ := Dp.reads inv _ y u p2 ry
    exact SeqAt.in_list_reads reads2 reads1 lay2 lay1 (room_in_shaped s1 hu) done
  · obtain ⟨bs, reads2⟩ := Dp.reads inv _ y u p2 ry
    exact SeqAt.in_tuple_reads reads2 reads1 lay2 lay1 (room_in_shaped s1 hu) done
theorem op_notInT {X : Cx} (hK : X.K = K) (hu : X.A.units + 65 < cLine) : OpR X (compareOp .NotIn) (rInT K true) := by
  subst hK
  refine fun _ st _ H x y v u _ inv rx ry ⟨d1, items, p1, p2, s1, s2, wish⟩ => ?_
  obtain ⟨as, reads1⟩ := Dp.reads inv d1 x v p1 rx
  have lay1 := SeqAt.canLay_of_shaped s1
  have lay2 : PyData.canLayAll0 items = true := SeqAt.canLay_of_shaped s2
  have done : EP X _ _ _ (Value.bool (!items.any fun z => PyData.eqv z d1)) st := ⟨.bl _, H, inv, rfl, (Bool.true_xor _) ▸ wish⟩
  rcases p2 with p2 | p2
  · obtain ⟨bs, reads2⟩ := Dp.reads inv _ y u p2 ry
    exact SeqAt.notIn_list_reads reads2 reads1 lay2 lay1 (room_in_shaped s1 hu) done
  · obtain ⟨bs, reads2⟩ := Dp.reads inv _ y u p2 ry
    exact SeqAt.notIn_tuple_reads reads2 reads1 lay2 lay1 (room_in_shaped s1 hu) done
def rSgn (neg : Bool) : R2 := fun x y H Q => ∃ (c : Nat) (z : Str), x = .str ⟨#[c]⟩ ∧ y = .str z ∧ Q (.bl (xor neg (decide (c ∈ z.cps.toList)))) H
theorem op_sgn {X : Cx} : OpR X (compareOp .In) (rSgn false) := fun pins s σ H x y v u Q I rx ry h => by
  obtain ⟨c, z, e1, e2, q⟩ := h
  rw [Bool.false_xor] at q
  exact op_in_sign pins s σ H x y v u Q I rx ry ⟨c, z, e1, e2, q⟩
theorem op_notSgn {X : Cx} : OpR X (compareOp .NotIn) (rSgn true) := fun pins s σ H x y v u Q I rx ry h => by
  obtain ⟨c, z, e1, e2, q⟩ := h
  rw [Bool.true_xor] at q
  exact op_notIn_sign pins s σ H x y v u Q I rx ry ⟨c, z, e1, e2, q⟩
def rIns (K : PySem.W.Frag) (neg : Bool) : R2 := fun x y H Q => rInT K neg x y H Q ∨ rSgn neg x y H Q
theorem op_ins {X : Cx} (hK : X.K = K) (hu : X.A.units + 65 < cLine) : OpR X (compareOp .In) (rIns K false) := OpR.or (op_inT hK hu) op_sgn
theorem op_notIns {X : Cx} (hK : X.K = K) (hu : X.A.units + 65 < cLine) : OpR X (compareOp .NotIn) (rIns K true) := OpR.or (op_notInT hK hu) op_notSgn
def dIn (neg : Bool) (x y : PyData) : Option PyData :=
  match y with
  | .list ds => if SeqAt.shaped x = true ∧ SeqAt.shaped (.list ds) = true then some (.bool (xor neg (ds.any fun z => PyData.eqv z x))) else none
  | .tuple ds => if SeqAt.shaped x = true ∧ SeqAt.shaped (.list ds) = true then some (.bool (xor neg (ds.any fun z => PyData.eqv z x))) else none
  | .str z => match x with
    | .str w => match w.cps.toList with
      | [c] => some (.bool (xor neg (decide (c ∈ z.cps.toList))))
      | _ => none
    | _ => none
  | _ => none
theorem str_one {w : Str} {c : Nat} (h : w.cps.toList = [c]) : w = ⟨#[c]⟩ := by
  cases w with
  | mk cps =>
    have : cps = #[c] := by
      apply Array.toList_inj.mp
      exact h
    rw [this]
theorem opd_in (neg : Bool) : OpD K (rIns K neg) (dIn neg) := fun H O x y d1 d2 d ht h1 h2 hf Q q => by
  unfold dIn at hf
  split at hf
  · obtain ⟨hc, e⟩ := ite_some hf
    subst e
    exact .inl ⟨_, _, h1.dp, .inl h2.dp, hc.1, hc.2, q _ H (Ex.refl H) (.bl _)⟩
  · obtain ⟨hc, e⟩ := ite_some hf
    subst e
    exact .inl ⟨_, _, h1.dp, .inr h2.dp, hc.1, hc.2, q _ H (Ex.refl H) (.bl _)⟩
  · split at hf
    · split at hf
      · rename_i c hw
        cases hf
        have e1 := h1.str
        have e2 := h2.str
        rw [str_one hw] at e1
        exact .inr ⟨c, _, e1, e2, q _ H (Ex.refl H) (.bl _)⟩
      · cases hf
    · cases hf
  · cases hf
/-! ### isinstance -/
def tyN : PyData → String
  | .none => "NoneType"
  | .bool _ => "bool"
  | .int _ => "int"
  | .str _ => "str"
  | .list _ => "list"
  | .tuple _ => "tuple"
  | .dict _ => "dict"
theorem tyx {H : Hp} {v : V} {d : PyData} (h : Dp K H v d) : TyX K H v (.type (tyN d)) := by
  cases h with
  | non => exact .base .non
  | bl b => exact .base (.bl b)
  | int i => exact .base (.int i)
  | str x => exact .base (.str x)
  | lst hs ha =>
    rcases hs with (h | ⟨o, h⟩) | ⟨o, its, n, h1, h2, _⟩
    · exact .base (.lst h)
    · exact .base (.frz h)
    · exact .kList h1 h2
  | tup hs ha =>
    rcases hs with (h | ⟨o, h⟩) | ⟨o, its, n, h1, h2, _⟩
    · exact .base (.tup h)
    · exact .fTuple h
    · exact .kTuple h1 h2
def mIsi (f : PyData → Bool) (m : En → Option PyData) : En → Option PyData := fun env => (m env).bind fun d => some (.bool (f d))
section
variable {ι : Type} {X : ι → Cx} {N : List Str} {k : Nat} {M : List Nat} {a b c e tg : Expr} {ta tb tc te : TE} {ma mb mc me : En → Option PyData} {pos : Pos}
def isiD (T : String) (d : PyData) : Bool := (kitB (tyN d) T).getD false
/-- isinstance(x, T) -/
theorem d_isi (F : Fam X K N k) (T : String) {x : Str} {p p2 : Pos} (h : MQ X K M e te me) (hm : ∀ i, (X i).mg "isinstance" = none) (hmx : ∀ i, (X i).mg x = none) (hT : ∀ d, (kitB (tyN d) T).isSome = true) (hb : bootBuiltins x = some (.type T)) (hg : ∀ i, Gl (X i) "isinstance" := by exact fun _ => rfl) (hgx : ∀ i, Gl (X i) x := by exact fun _ => rfl) (hn : x ≠ "__name__" := by decide) (hdb : (x == ("__debug__" : Str)) = false := by decide)
    (he : ∀ i, starEach (e :: [.Name x p2]) (X i).env = (false, eval e (X i).env) :: starEach [.Name x p2] (X i).env := by exact fun _ => rfl) (he2 : ∀ i, starEach [.Name x p2] (X i).env = (false, eval (.Name x p2) (X i).env) :: starEach [] (X i).env := by exact fun _ => rfl) (hpl : ∀ i, (backTo pos (starEach [.Name x p2] (X i).env)).any (·.1) = false := by exact fun _ => rfl) :
    MD X K M (.Call (.Name "isinstance" p) [e, .Name x p2] [] pos) (tCB (rIsi K) (tCons te (tCons (tC (.ty T)) tNil))) (mIsi (isiD T) me) := ⟨fun i => by
  have := pe_callB (pos := pos) (p := p) (r := rIsi (X i).K) call_isi (hg i) (hm i) (by decide +kernel) (pa_cons (h.pe i) (pa_cons (pe_bltn (v := .ty T) (hgx i) (hmx i) hb rfl hn hdb) pa_nil (he2 i)) (he i)) (by decide) (by decide) (he i) (hpl i)
  rw [F.hK i] at this
  exact this, fun H0 O0 O σ H env d s hmm Q q => by
  obtain ⟨d1, h1, h2⟩ := bind1 hmm
  cases h2
  refine h.sd H0 O0 O σ H env d1 s h1 _ fun v H1 e1 hv => ⟨v, .ty T, .type (tyN d1), .type T, isiD T d1, rfl, .ty T, tyx hv.dp, kit_ty ?_, q _ H1 e1 (.bl _)⟩
  obtain ⟨r, hr⟩ := Option.isSome_iff_exists.mp (hT d1)
  unfold isiD
  rw [hr]
  rfl⟩
theorem isiT_int : ∀ d, (kitB (tyN d) "int").isSome = true
  | .none => (show (kitB "NoneType" "int").isSome = true by decide +kernel)
  | .bool _ => (show (kitB "bool" "int").isSome = true by decide +kernel)
  | .int _ => (show (kitB "int" "int").isSome = true by decide +kernel)
  | .str _ => (show (kitB "str" "int").isSome = true by decide +kernel)
  | .list _ => (show (kitB "list" "int").isSome = true by decide +kernel)
  | .tuple _ => (show (kitB "tuple" "int").isSome = true by decide +kernel)
  | .dict _ => (show (kitB "dict" "int").isSome = true by decide +kernel)
theorem isiT_bool : ∀ d, (kitB (tyN d) "bool").isSome = true
  | .none => (show (kitB "NoneType" "bool").isSome = true by decide +kernel)
  | .bool _ => (show (kitB "bool" "bool").isSome = true by decide +kernel)
  | .int _ => (show (kitB "int" "bool").isSome = true by decide +kernel)
  | .str _ => (show (kitB "str" "bool").isSome = true by decide +kernel)
  | .list _ => (show (kitB "list" "bool").isSome = true by decide +kernel)
  | .tuple _ => (show (kitB "tuple" "bool").isSome = true by decide +kernel)
  | .dict _ => (show (kitB "dict" "bool").isSome = true by decide +kernel)
theorem isiT_str : ∀ d, (kitB (tyN d) "str").isSome = true
  | .none => (show (kitB "NoneType" "str").isSome = true by decide +kernel)
  | .bool _ => (show (kitB "bool" "str").isSome = true by decide +kernel)
  | .int _ => (show (kitB "int" "str").isSome = true by decide +kernel)
  | .str _ => (show (kitB "str" "str").isSome = true by decide +kernel)
  | .list _ => (show (kitB "list" "str").isSome = true by decide +kernel)
  | .tuple _ => (show (kitB "tuple" "str").isSome = true by decide +kernel)
  | .dict _ => (show (kitB "dict" "str").isSome = true by decide +kernel)
theorem isiT_tuple : ∀ d, (kitB (tyN d) "tuple").isSome = true
  | .none => (show (kitB "NoneType" "tuple").isSome = true by decide +kernel)
  | .bool _ => (show (kitB "bool" "tuple").isSome = true by decide +kernel)
  | .int _ => (show (kitB "int" "tuple").isSome = true by decide +kernel)
  | .str _ => (show (kitB "str" "tuple").isSome = true by decide +kernel)
  | .list _ => (show (kitB "list" "tuple").isSome = true by decide +kernel)
  | .tuple _ => (show (kitB "tuple" "tuple").isSome = true by decide +kernel)
  | .dict _ => (show (kitB "dict" "tuple").isSome = true by decide +kernel)
theorem isiT_list : ∀ d, (kitB (tyN d) "list").isSome = true
  | .none => (show (kitB "NoneType" "list").isSome = true by decide +kernel)
  | .bool _ => (show (kitB "bool" "list").isSome = true by decide +kernel)
  | .int _ => (show (kitB "int" "list").isSome = true by decide +kernel)
  | .str _ => (show (kitB "str" "list").isSome = true by decide +kernel)
  | .list _ => (show (kitB "list" "list").isSome = true by decide +kernel)
  | .tuple _ => (show (kitB "tuple" "list").isSome = true by decide +kernel)
  | .dict _ => (show (kitB "dict" "list").isSome = true by decide +kernel)
def isInt : PyData → Bool
  | .int _ => true
  | .bool _ => true
  | _ => false
def isBool : PyData → Bool
  | .bool _ => true
  | _ => false
def isStr : PyData → Bool
  | .str _ => true
  | _ => false
def isTuple : PyData → Bool
  | .tuple _ => true
  | _ => false
def isList : PyData → Bool
  | .list _ => true
  | _ => false
theorem isi_int : ∀ d : PyData, isiD "int" d = isInt d
  | .none => (show (kitB "NoneType" "int").getD false = false by decide +kernel)
  | .bool _ => (show (kitB "bool" "int").getD false = true by decide +kernel)
  | .int _ => (show (kitB "int" "int").getD false = true by decide +kernel)
  | .str _ => (show (kitB "str" "int").getD false = false by decide +kernel)
  | .list _ => (show (kitB "list" "int").getD false = false by decide +kernel)
  | .tuple _ => (show (kitB "tuple" "int").getD false = false by decide +kernel)
  | .dict _ => (show (kitB "dict" "int").getD false = false by decide +kernel)
theorem isi_bool : ∀ d : PyData, isiD "bool" d = isBool d
  | .none => (show (kitB "NoneType" "bool").getD false = false by decide +kernel)
  | .bool _ => (show (kitB "bool" "bool").getD false = true by decide +kernel)
  | .int _ => (show (kitB "int" "bool").getD false = false by decide +kernel)
  | .str _ => (show (kitB "str" "bool").getD false = false by decide +kernel)
  | .list _ => (show (kitB "list" "bool").getD false = false by decide +kernel)
  | .tuple _ => (show (kitB "tuple" "bool").getD false = false by decide +kernel)
  | .dict _ => (show (kitB "dict" "bool").getD false = false by decide +kernel)
theorem isi_str : ∀ d : PyData, isiD "str" d = isStr d
  | .none => (show (kitB "NoneType" "str").getD false = false by decide +kernel)
  | .bool _ => (show (kitB "bool" "str").getD false = false by decide +kernel)
  | .int _ => (show (kitB "int" "str").getD false = false by decide +kernel)
  | .str _ => (show (kitB "str" "str").getD false = true by decide +kernel)
  | .list _ => (show (kitB "list" "str").getD false = false by decide +kernel)
  | .tuple _ => (show (kitB "tuple" "str").getD false = false by decide +kernel)
  | .dict _ => (show (kitB "dict" "str").getD false = false by decide +kernel)
theorem isi_tuple : ∀ d : PyData, isiD "tuple" d = isTuple d
  | .none => (show (kitB "NoneType" "tuple").getD false = false by decide +kernel)
  | .bool _ => (show (kitB "bool" "tuple").getD false = false by decide +kernel)
  | .int _ => (show (kitB "int" "tuple").getD false = false by decide +kernel)
  | .str _ => (show (kitB "str" "tuple").getD false = false by decide +kernel)
  | .list _ => (show (kitB "list" "tuple").getD false = false by decide +kernel)
  | .tuple _ => (show (kitB "tuple" "tuple").getD false = true by decide +kernel)
  | .dict _ => (show (kitB "dict" "tuple").getD false = false by decide +kernel)
theorem isi_list : ∀ d : PyData, isiD "list" d = isList d
  | .none => (show (kitB "NoneType" "list").getD false = false by decide +kernel)
  | .bool _ => (show (kitB "bool" "list").getD false = false by decide +kernel)
  | .int _ => (show (kitB "int" "list").getD false = false by decide +kernel)
  | .str _ => (show (kitB "str" "list").getD false = false by decide +kernel)
  | .list _ => (show (kitB "list" "list").getD false = true by decide +kernel)
  | .tuple _ => (show (kitB "tuple" "list").getD false = false by decide +kernel)
  | .dict _ => (show (kitB "dict" "list").getD false = false by decide +kernel)
/-! ### list(range(a, b)) -/
def mLRg (ma mb : En → Option PyData) : En → Option PyData := fun env => (ma env).bind fun a => (mb env).bind fun b => match a, b with
  | .int i, .int j => if -(2 ^ 62) ≤ i ∧ i < 2 ^ 62 ∧ -(2 ^ 62) ≤ j ∧ j < 2 ^ 62 ∧ (j - i).toNat ≤ 2 ^ 24 then some (.list (rangeD i (j - i).toNat)) else none
  | _, _ => none
theorem dpAll_range {H : Hp} (a b : Int) : DpAll K H (rgV a b) (rangeD a (b - a).toNat) := by
  unfold rgV rangeD
  generalize List.range (b - a).toNat = l
  induction l with
  | nil => exact .nil
  | cons i l ih => exact .cons (.int _) ih
theorem d_listRg2 (F : Fam X K N k) {p p1 p2 : Pos} (ha : MD X K M a ta ma) (hb : MD X K M b tb mb) (hm : ∀ i, (X i).mg "list" = none) (hmr : ∀ i, (X i).mg "range" = none) (hg : ∀ i, Gl (X i) "list" := by exact fun _ => rfl) (hgr : ∀ i, Gl (X i) "range" := by exact fun _ => rfl)
    (na : ∀ i, starEach [a, b] (X i).env = (false, eval a (X i).env) :: starEach [b] (X i).env := by exact fun _ => rfl) (nb : ∀ i, starEach [b] (X i).env = (false, eval b (X i).env) :: starEach [] (X i).env := by exact fun _ => rfl) (hp : ∀ i, (backTo p2 (starEach [b] (X i).env)).any (·.1) = false := by exact fun _ => rfl)
    (nc : ∀ i, starEach [.Call (.Name "range" p1) [a, b] [] p2] (X i).env = (false, eval (.Call (.Name "range" p1) [a, b] [] p2) (X i).env) :: starEach [] (X i).env := by exact fun _ => rfl) :
    MD X K M (.Call (.Name "list" p) [.Call (.Name "range" p1) [a, b] [] p2] [] pos) (tLstRg (tRg2 ta tb)) (mLRg ma mb) := ⟨fun i => pe_listRg (F.calm i) (hg i) (hm i) (prg_2 (hgr i) (hmr i) (ha.pe i) (hb.pe i) (na i) (nb i) (hp i)) (nc i), fun H0 O0 O σ H env d s hmm Q q => by
  obtain ⟨x, y, h1, h2, h3⟩ := bind2 hmm
  refine ha.sd H0 O0 O σ H env x s h1 _ fun v H1 e1 hv => ?_
  refine hb.sd H0 O0 O σ H1 env y (s.ex e1) h2 _ fun w H2 e2 hw => ?_
  cases hv with
  | int i =>
    cases hw with
    | int j =>
      obtain ⟨hz, e⟩ := ite_some h3
      subst e
      exact ⟨i, j, rfl, rfl, hz, fun p hp => q _ _ ((e1.trans e2).trans (Ex.new hp)) (new_list ((s.ex e1).ex e2).there hp (dpAll_range i j))⟩
    | _ => cases h3
  | _ => cases h3⟩
/-! ### xs.index(y), s.split(sep) -/
def findD (y : PyData) : List PyData → Nat → Option Nat
  | [], _ => none
  | d :: ds, i => if PyData.eqv d y = true then some i else findD y ds (i + 1)
theorem findD_some {y : PyData} : ∀ {ds : List PyData} {i j : Nat}, findD y ds i = some j → i ≤ j ∧ (∃ z, ds[j - i]? = some z ∧ PyData.eqv z y = true) ∧ ∀ (m : Nat) (z : PyData), m < j - i → ds[m]? = some z → PyData.eqv z y = false
  | [], _, _, h => by cases h
  | d :: ds, i, j, h => by
    unfold findD at h
    by_cases hd : PyData.eqv d y = true
    · rw [if_pos hd] at h
      cases h
      rw [Nat.sub_self]
      exact ⟨Nat.le_refl _, ⟨d, rfl, hd⟩, fun m z hm => absurd hm (Nat.not_lt_zero _)⟩
    · rw [if_neg hd] at h
      obtain ⟨h1, ⟨z, h2, h3⟩, h4⟩ := findD_some h
      have e : j - i = (j - (i + 1)) + 1 := by omega
      refine ⟨by omega, ⟨z, by rw [e]; exact h2, h3⟩, fun m z' hm hz => ?_⟩
      cases m with
      | zero =>
        cases hz
        exact Bool.eq_false_iff.mpr hd
      | succ m => exact h4 m z' (by omega) hz
def mIndex (ma mb : En → Option PyData) : En → Option PyData := fun env => (ma env).bind fun a => (mb env).bind fun b => match a with
  | .list ds => if SeqAt.shaped (.list ds) = true ∧ SeqAt.shaped b = true then (findD b ds 0).map fun j => .int (j : Nat) else none
  | _ => none
theorem d_index (F : Fam X K N k) {p1 : Pos} (ha : MQ X K M a ta ma) (hb : MQ X K M b tb mb) (hp : ∀ i, PE (X i) (.Call (.Attribute a "index" p1) [b] [] pos) (tBM (X i).K "list" (rIndexD (X i).K) ta (tCons tb tNil))) :
    MD X K M (.Call (.Attribute a "index" p1) [b] [] pos) (tBM K "list" (rIndexD K) ta (tCons tb tNil)) (mIndex ma mb) := ⟨fun i => by
  have := hp i
  rw [F.hK i] at this
  exact this, fun H0 O0 O σ H env d s hmm Q q => by
  obtain ⟨x, y, h1, h2, h3⟩ := bind2 hmm
  refine ha.sd H0 O0 O σ H env x s h1 _ fun v H1 e1 hv => ?_
  cases x with
  | list ds =>
    obtain ⟨l, xs, rfl, s1, a1⟩ := hv.list
    refine ⟨.inl ⟨rfl, xs, s1⟩, hb.sd H0 O0 O σ H1 env y (s.ex e1) h2 _ fun w H2 e2 hw => ?_⟩
    have h3' : (if SeqAt.shaped (.list ds) = true ∧ SeqAt.shaped y = true then (findD y ds 0).map fun j => PyData.int (j : Nat) else none) = some d := h3
    by_cases hc : SeqAt.shaped (.list ds) = true ∧ SeqAt.shaped y = true
    · rw [if_pos hc] at h3'
      cases hj : findD y ds 0 with
      | none =>
        rw [hj] at h3'
        cases h3'
      | some j =>
        rw [hj] at h3'
        cases h3'
        obtain ⟨_, ⟨z, g1, g2⟩, g3⟩ := findD_some hj
        rw [Nat.sub_zero] at g1 g3
        exact ⟨l, w, y, ds, j, z, rfl, rfl, (hv.ex e2).dp, hw.dp, hc.1, hc.2, g1, g2, g3, q _ H2 (e1.trans e2) (.int _)⟩
    · rw [if_neg hc] at h3'
      cases h3'
  | _ => cases h3⟩
def mSplit (ma mb : En → Option PyData) : En → Option PyData := fun env => (ma env).bind fun a => (mb env).bind fun b => match a, b with
  | .str x, .str y => if (y.length == 0) = false ∧ x.length + 2 ≤ sizeLine then some (.list ((Txt.split x y).map .str)) else none
  | _, _ => none
theorem d_split {p1 : Pos} (ha : MD X K M a ta ma) (hb : MD X K M b tb mb) (hs : ∀ i, starEach [b] (X i).env = [(false, eval b (X i).env)] := by exact fun _ => rfl) (hbase : ∀ i, attributeBase a "split" (X i).env (eval a (X i).env) = eval a (X i).env := by exact fun _ => rfl) (hline : (p1.endLine == pos.line) = true := by rfl) :
    MD X K M (.Call (.Attribute a "split" p1) [b] [] pos) (tM1 (fun x xs H Q => ∃ a b, x = .str a ∧ xs = [.str b] ∧ (b.length == 0) = false ∧ a.length + 2 ≤ sizeLine ∧ rNewStrs (Txt.split a b) H Q) ta tb) (mSplit ma mb) := ⟨fun i => pe_split (ha.pe i) (hb.pe i) (hs i) (hbase i) hline, fun H0 O0 O σ H env d s hmm Q q => by
  obtain ⟨x, y, h1, h2, h3⟩ := bind2 hmm
  refine ha.sd H0 O0 O σ H env x s h1 _ fun v H1 e1 hv => ?_
  cases hv with
  | str x =>
    refine ⟨⟨_, rfl⟩, hb.sd H0 O0 O σ H1 env y (s.ex e1) h2 _ fun w H2 e2 hw => ?_⟩
    cases hw with
    | str y =>
      obtain ⟨hz, e⟩ := ite_some h3
      subst e
      exact ⟨x, y, rfl, rfl, hz.1, hz.2, fun p hp => q _ _ ((e1.trans e2).trans (Ex.new hp)) (new_list ((s.ex e1).ex e2).there hp (dpAll_of_strs _))⟩
    | _ => cases h3
  | _ => cases h3⟩
end
end

end Rv
namespace Rv
open PySem L2 PySem.Spec PyProof.Rows
/-! The data layer, part B: enumerate over tuples and lists; op=. -/

/-- a tuple's items with their numbers, each in a new pair; it stops right behind the last one -/
def IteT (K : PySem.W.Frag) (a : Addr) : It where
  go := fun i H => ∃ (xs : List V) (x : V), SqT K H a xs ∧ xs[i]? = some x
  yld := fun i H v later => ∃ (pair : Addr) (x : V), v = .ref pair ∧ H pair = none ∧ later = upd H pair (.tup [.int (i : Nat), x]) ∧ ∀ xs, SqT K H a xs → xs[i]? = some x
  stop := fun i H => ∃ xs : List V, SqT K H a xs ∧ xs.length = i
/-- the library's walk of enumerate over what a tuple's iterator draws, as it stands at one moment -/
theorem walkNow {X : Cx} {pins : List (Addr × Obj)} {σ : L2.St} {H : Hp} {s : Shared} {a en it : Addr} {i : Nat} {old : Value} {its : List Value} (inv : Inv X pins σ H s) (calm : X.calm = true) (tup : IsTup s.heap a its.toArray) (he : IsEnum s.heap en it ((i : Nat) : Int) old) (hit : s.heap.IsTupleIter it a i) (ne : en ≠ it) :
    WalksT X.prog X.w X.A en (en :: [it, a]) [en, it] its.toArray.size (fun i vals => ∃ t x, its.toArray[i]? = some x ∧ vals = #[.int i t, x]) (fun i h => (∃ old, IsEnum h en it i old) ∧ h.IsTupleIter it a i ∧ h.IsTuple a its.toArray)
      (fun i T h => (∃ x, IsEnumOut h en it ((i : Int) + 1) x T) ∧ (h.IsTupleIter it a (i + 1) ∧ h.IsTuple a its.toArray) ∧ T ≠ en ∧ T ≠ it) := by
  obtain ⟨oi, ati, ci, _⟩ := id hit
  obtain ⟨ot, att, ct, _⟩ := id tup
  have ne2 : a ≠ it := fun z => by
    rw [z, ati] at att
    obtain rfl := Option.some.inj att
    exact absurd (Value.type.inj (ci.symm.trans ct)) (by decide)
  have ne3 : en ≠ a := fun z => by
    rw [← z] at att
    have q := Option.some.inj (Eq.trans (Eq.symm (show s.heap.get? en = some _ from he)) att)
    rw [← q] at ct
    exact absurd (Value.type.inj ct) (by decide)
  exact WalksT.enumerateD (Draws.tuple (A := X.A.in1) (inv.ok.hd calm) it a ne2 its.toArray) en ne (by simp only [List.mem_cons, List.not_mem_nil, or_false, not_or]; exact ⟨ne, ne3⟩) List.mem_cons_self
set_option maxHeartbeats 1500000 in
theorem turnT {P : Program} {w : World} {K : PySem.W.Frag} {names : List Expr} {q : Nat} {at_ : Pos} (a en it : Addr) :
    Turn P w K (.Tuple names q at_) (IteT K a) [en, it] en (fun i h => (∃ old, IsEnum h en it ((i : Nat) : Int) old) ∧ h.IsTupleIter it a i ∧ en ≠ it) := by
  refine ⟨List.mem_cons_self, ?_, ?_, ?_, ?_, ?_⟩
  · rintro i h ⟨⟨old, he⟩, ⟨oi, ati, _, di⟩, _⟩ b hb
    cases hb with
    | head => exact ⟨_, he, fun _ z => nomatch z⟩
    | tail _ hb =>
      cases List.mem_singleton.mp hb
      exact ⟨oi, ati, fun v z => nomatch di.symm.trans z⟩
  · rintro i h h2 ⟨⟨old, he⟩, hit, ne⟩ stay
    exact ⟨⟨old, stay en List.mem_cons_self _ he⟩, hit.at (fun o z => stay it (List.mem_cons_of_mem _ List.mem_cons_self) o z), ne⟩
  · rintro X rfl rfl rfl calm i pins st σ H E inv free ⟨⟨old, he⟩, hit, ne⟩ ⟨xs, x, hs, hx⟩
    obtain ⟨its, rel, tup, _⟩ := inv.tuple hs
    obtain ⟨u, hu, ru⟩ := rel.get hx
    have W := walkNow inv calm tup he hit ne
    have room : i < its.toArray.size := by
      simpa only [List.size_toArray] using (List.getElem?_eq_some_iff.mp hu).1
    refine W.item i st _ E room ⟨⟨old, he⟩, hit, tup⟩ fun T vals h1 tk ⟨t, y, hy, hv⟩ newT isT mid stay => ⟨_, rfl, ?_⟩
    have same : y = u := Option.some.inj (hy.symm.trans (by rw [List.getElem?_toArray]; exact hu))
    subst same hv
    refine W.go names q at_ i T { st with heap := h1, toks := tk } _ E mid fun h2 ⟨en2, it2, _⟩ stay2 => ?_
    have apart : T ∉ [en, it] := W.apart i T h1 mid
    have isT2 : h2.IsTuple T #[.int i t, y] := isT.at fun o z => stay2 T o apart z
    have laid : ObjOk X.prog X.w (upd H T (.tup [.int (i : Nat), x])) h2 T (.tup [.int (i : Nat), x]) := ⟨show 2 ≤ sizeLine by decide, [.int i t, y], .cons ⟨t, rfl⟩ (.cons ru .nil), isT2⟩
    have inv2 := inv.turnedNew (t' := tk) (ch := [en, it]) (fun b o out z => stay2 b o out (stay b o out z)) free newT laid
    refine ⟨.ref T, _, inv2, rfl, ⟨T, x, rfl, inv.hok.fresh newT, rfl, fun ys hys => by rw [inv.tuple_inj hys hs]; exact hx⟩, ⟨en2, it2, ne⟩, fun b hb => ?_⟩
    rw [upd_ne fun (z : b = T) => apart (by rw [← z]; exact hb)]
    exact (free b hb).1
  · rintro X rfl rfl rfl calm i pins st σ H E inv free ⟨⟨old, he⟩, hit, ne⟩ ⟨xs, hs, hl⟩
    obtain ⟨its, rel, tup, _⟩ := inv.tuple hs
    have W := walkNow inv calm tup he hit ne
    have last : i = its.toArray.size := by
      rw [List.size_toArray, ← rel.length]
      exact hl.symm
    subst last
    refine W.done st _ E ⟨⟨old, he⟩, hit, tup⟩ fun h1 tk stay => ⟨rfl, ?_⟩
    have free2 : ∀ b ∈ [en, it], (b ∈ X.ex ∨ X.s_0.heap.objs.size ≤ b) ∧ b ≠ X.env.locals ∧ (∀ x c, X.env.cells.lookup x = some c → c ≠ b) ∧ ∀ p ∈ X.pn ++ pins, p.1 ≠ b := fun b hb => ⟨(free b hb).2.2.2.1, (free b hb).2.1, (free b hb).2.2.2.2.1, (free b hb).2.2.2.2.2⟩
    have nHb : ∀ b o, H b = some o → b ∉ [en, it] := fun b o z hb => by
      rw [(free b hb).1] at z
      cases z
    refine inv.step (g' := st.gens) (d' := st.drawn) (t' := tk) free2 (fun b o _ _ out z _ => stay b o out z) (fun b o _ _ out z _ => ⟨o.slots, stay b o out z⟩) (fun _ _ _ _ z => z) (fun b o out z => ⟨o, stay b o out z⟩) (fun _ _ z => z) (fun _ _ _ z => z) (fun b ps z => ⟨#[], by rw [z, Array.append_empty]⟩) (fun m hm => ?_) (fun b o z => ?_) inv.bare
    · obtain ⟨oL, es, ep, atL, more⟩ := hm
      exact ⟨oL, es, ep, stay _ _ (fun hb => (free2 _ hb).2.1 rfl) atL, more⟩
    · refine (inv.hok b o z).stay (fun c u hc atc => stay c u ?_ atc) (fun _ y => y) fun _ _ y => y
      rcases hc with rfl | hc
      · exact nHb _ _ z
      · exact nHb _ _ hc
  · rintro A i st Q E ⟨⟨old, he⟩, _⟩ goal
    exact wpAny_pyIter_enum he goal
set_option maxHeartbeats 1500000 in
/-- enumerate(v) of anything that begins -/
theorem enum_one {v : Value} {fresh : Obj} {Ok : Heap → Prop} (B : Begins v fresh Ok) :
    Meets (Builtin.«enumerate.__new__» ⟨[.type "enumerate", v], []⟩) fun _ R s => Ok s.heap ∧
      R (.ok (.ret (.ref (s.heap.push fresh).objs.size))) { s with heap := (s.heap.push fresh).push { cls := .type "enumerate", data := .fields #[.none, .bool false, .ref s.heap.objs.size, rawInt 0, .none, .none] } } := by
  refine .of_wp fun prog w A R s wish => ?_
  rcases s with ⟨heap, gens, drawn, toks, os⟩
  have sub := sub_enumerate
  have begin_ : ∀ {around : Around} {E Q : Value → Shared → Prop}, Q (.ref heap.objs.size) ⟨heap.push fresh, gens, drawn, toks, os⟩ → wpAny (model prog w) around (pyIter v) Q E ⟨heap, gens, drawn, toks, os⟩ := fun {around E Q} goal => B.iter prog w around E _ Q wish.1 goal
  wp_walk using begin_
  apply wpAny_stack_any
  intro st
  apply wpAny_pure
  split
  · rename_i kind _ _ _ _ _
    rcases (kind == Value.type "enumerate") with _ | _
    all_goals (wp_walk using begin_; exact ⟨_, rfl, wish.2⟩)
  · wp_walk using begin_
    exact ⟨_, rfl, wish.2⟩
theorem enum_tuple {prog : Program} {w : World} {A : Around} {E : Value → Shared → Prop} {s : Shared} {t : Addr} {items : Array Value} {Q : Value → Shared → Prop} (tup : s.heap.IsTuple t items)
    (next : ∀ h2, IsEnum h2 (s.heap.objs.size + 1) s.heap.objs.size 0 .none → h2.IsTupleIter s.heap.objs.size t 0 → (∀ b o, s.heap.get? b = some o → h2.get? b = some o) → Q (.ref (s.heap.objs.size + 1)) { s with heap := h2 }) :
    wpAny (model prog w) A (call (.type "enumerate") [.ref t]) Q E s := by
  have size := Heap.size_push s.heap { cls := .type "tuple_iterator", data := .fields #[.ref t, .int 0 0] }
  have made := enum_one (begins_tuple t items)
  refine callType_new F.called_enumerate (by decide) (F.typeCall_enumerate_1 _) (F.newCall_enumerate_1 _) (F.args_object_init_2 · _) F.entry_enumerate_new made ⟨tup, ?_⟩
  show _ ∧ _
  simp only [size]
  have isE := Heap.get?_push_size (s.heap.push { cls := .type "tuple_iterator", data := .fields #[.ref t, .int 0 0] }) (o := { cls := .type "enumerate", data := .fields #[.none, .bool false, .ref s.heap.objs.size, rawInt 0, .none, .none] }) rfl
  simp only [size] at isE
  exact ⟨⟨_, isE, rfl⟩, next _ isE ⟨_, Heap.get?_push_of_some _ (Heap.get?_push_size _ rfl), rfl, rfl⟩ fun _ _ z => Heap.get?_push_of_some _ (Heap.get?_push_of_some _ z)⟩
def iEnumT (K : PySem.W.Frag) (ta : TA) : TI := fun σ H R => ta σ H fun vs H1 => ∃ a xs, vs = [.ref a] ∧ SqT K H1 a xs ∧ R (IteT K a) H1
theorem pi_enumT {X : Cx} {e : Expr} {ta : TA} {p pos at_ : Pos} {names : List Expr} {q : Nat} (hg : Gl X "enumerate") (hm : X.mg "enumerate" = none) (ha : PA X [e] ta) (star : starEach [e] X.env = [(false, eval e X.env)] := by rfl) :
    PI X (.Tuple names q at_) (.Call (.Name "enumerate" p) [e] [] pos) (iEnumT X.K ta) := by
  constructor
  intro pins st σ H R inv wish
  have args := ha.run pos pins st σ H _ inv wish
  refine Call_ (ld_blt inv hg hm boot_enumerate (PyProof.Rows.callWith_type1 (thn args ?_) star rfl))
  rintro us s1 ⟨vs, H1, inv1, rel, a, xs, rfl, hs, goal⟩
  obtain ⟨only, rfl, is⟩ := vals1 rel
  cases is
  obtain ⟨its, _, tup, _⟩ := inv1.tuple hs
  refine enum_tuple tup fun h2 isE isI stay => wpAny_pyIter_enum isE ?_
  refine ⟨_, [s1.heap.objs.size + 1, s1.heap.objs.size], _, _, H1, rfl, inv1.kept (t' := s1.toks) stay, turnT a (s1.heap.objs.size + 1) s1.heap.objs.size, ⟨⟨.none, isE⟩, isI, Nat.succ_ne_self _⟩, fun b hb => ?_, goal⟩
  have above : s1.heap.objs.size ≤ b := by
    cases hb with
    | head => exact Nat.le_succ _
    | tail _ hb => exact Nat.le_of_eq (List.mem_singleton.mp hb).symm
  exact inv1.fpOk above (inv1.hok.fresh above)
def iEnumA (K : PySem.W.Frag) (ta : TA) : TI := fun σ H R => iEnum K ta σ H R ∨ iEnumT K ta σ H R
theorem pi_enumA {X : Cx} {K : PySem.W.Frag} (hK : X.K = K) {e : Expr} {ta : TA} {p pos at_ : Pos} {names : List Expr} {q : Nat} (hg : Gl X "enumerate") (hm : X.mg "enumerate" = none) (ha : PA X [e] ta) (star : starEach [e] X.env = [(false, eval e X.env)] := by rfl) :
    PI X (.Tuple names q at_) (.Call (.Name "enumerate" p) [e] [] pos) (iEnumA K ta) := by
  subst hK
  refine ⟨fun pins st σ H R inv => ?_⟩
  rintro (h | h)
  · exact (pi_enum hg hm ha star).run pins st σ H R inv h
  · exact (pi_enumT hg hm ha star).run pins st σ H R inv h
def enumD (ds : List PyData) : List PyData := (List.range ds.length).zipWith (fun (i : Nat) d => .tuple [.int (i : Int), d]) ds
theorem enumD_get {ds : List PyData} {i : Nat} {d : PyData} (h : (enumD ds)[i]? = some d) : ∃ x, ds[i]? = some x ∧ d = .tuple [.int (i : Nat), x] := by
  unfold enumD at h
  rw [List.getElem?_zipWith] at h
  by_cases z : i < ds.length
  · rw [List.getElem?_range z, List.getElem?_eq_getElem z] at h
    cases h
    exact ⟨ds[i], List.getElem?_eq_getElem z, rfl⟩
  · have e : ds[i]? = none := List.getElem?_eq_none (by omega)
    rw [e] at h
    cases hr : (List.range ds.length)[i]? with
    | none => rw [hr] at h; cases h
    | some y => rw [hr] at h; cases h
theorem enumD_len (ds : List PyData) : (enumD ds).length = ds.length := by
  unfold enumD
  rw [List.length_zipWith, List.length_range, Nat.min_self]
theorem wk_enumL {K : PySem.W.Frag} {H : Hp} {O : List Addr} {p : Addr} {xs : List V} {ds : List PyData} {b : Bool} (hs : SqL K (cut H O) p xs) (ha : DpAll K (cut H O) xs ds) : Wk K O (Ite K p) H (enumD ds) b := fun H' O' e1 ht _ i => by
  have hq : SqL K H' p xs := cut_ex.sl (e1.sl hs)
  refine ⟨fun d hd => ?_, fun hl => ⟨xs, hq, by rw [dpAll_len ha]; rw [enumD_len] at hl; exact Nat.le_of_eq hl⟩⟩
  obtain ⟨x, hx, rfl⟩ := enumD_get hd
  obtain ⟨v, hv, hd'⟩ := dpAll_get' ha hx
  refine ⟨⟨xs, v, hq, hv⟩, fun y H'' hy => ?_⟩
  obtain ⟨T, z, rfl, hT, rfl, hz⟩ := hy
  have : z = v := Option.some.inj ((hz xs hq).symm.trans hv)
  subst this
  exact ⟨Ex.new hT, new_tup ht hT (.cons (.int _) (.cons (dp_ex e1 hd') .nil))⟩
theorem wk_enumT {K : PySem.W.Frag} {H : Hp} {O : List Addr} {p : Addr} {xs : List V} {ds : List PyData} {b : Bool} (hs : SqT K (cut H O) p xs) (ha : DpAll K (cut H O) xs ds) : Wk K O (IteT K p) H (enumD ds) b := fun H' O' e1 ht _ i => by
  have hq : SqT K H' p xs := cut_ex.st (e1.st hs)
  refine ⟨fun d hd => ?_, fun hl => ⟨xs, hq, by rw [dpAll_len ha]; rw [enumD_len] at hl; exact hl⟩⟩
  obtain ⟨x, hx, rfl⟩ := enumD_get hd
  obtain ⟨v, hv, hd'⟩ := dpAll_get' ha hx
  refine ⟨⟨xs, v, hq, hv⟩, fun y H'' hy => ?_⟩
  obtain ⟨T, z, rfl, hT, rfl, hz⟩ := hy
  have : z = v := Option.some.inj ((hz xs hq).symm.trans hv)
  subst this
  exact ⟨Ex.new hT, new_tup ht hT (.cons (.int _) (.cons (dp_ex e1 hd') .nil))⟩
def enm : List PyData → Option (List PyData)
  | [.list xs] => some (enumD xs)
  | [.tuple xs] => some (enumD xs)
  | _ => none
section
variable {ι : Type} {X : ι → Cx} {K : PySem.W.Frag} {N : List Str} {k : Nat} {M : List Nat} {a b c e tg : Expr} {ta tb tc te : TE} {ma mb mc me : En → Option PyData} {pos : Pos}
theorem i_enum (F : Fam X K N k) {t : TA} {ms : En → Option (List PyData)} {p tpos : Pos} {elts : List Expr} {kk : Nat} (hm : ∀ i, (X i).mg "enumerate" = none) (h : MA X K M [a] t ms) (hg : ∀ i, Gl (X i) "enumerate" := by exact fun _ => rfl) (hs : ∀ i, starEach [a] (X i).env = [(false, eval a (X i).env)] := by exact fun _ => rfl) :
    MI X K M (.Tuple elts kk tpos) (.Call (.Name "enumerate" p) [a] [] pos) (iEnumA K t) (mRng enm ms) false := ⟨fun i => pi_enumA (F.hK i) (hg i) (hm i) (h.pa i) (hs i), fun H0 O0 O σ H env ds s hmm R q => by
  obtain ⟨es, h1, h2⟩ := bind1 hmm
  unfold enm at h2
  split at h2
  · cases h2
    refine .inl (h.sd H0 O0 O σ H env _ s h1 _ fun vs H1 e1 hv => ?_)
    cases hv with
    | cons hx ht =>
      cases ht
      cases hx with
      | lst hs ha => exact ⟨_, _, rfl, cut_ex.sl hs, q _ H1 e1 (wk_enumL hs ha)⟩
  · cases h2
    refine .inr (h.sd H0 O0 O σ H env _ s h1 _ fun vs H1 e1 hv => ?_)
    cases hv with
    | cons hx ht =>
      cases ht
      cases hx with
      | tup hs ha => exact ⟨_, _, rfl, cut_ex.st hs, q _ H1 e1 (wk_enumT hs ha)⟩
  · cases h2⟩
/-! ### op= -/
theorem ip_addI {Y : Cx} : PIp Y .Add (rI0 fun i j => .int (i + j)) := iop_add
theorem ip_mulA {Y : Cx} : PIp Y .Mult rMulA := fun pins s σ H x y v u Q I rx ry h => by
  obtain ⟨left, right, rfl, rfl, hc, q⟩ := h
  obtain ⟨t1, rfl⟩ := rx
  obtain ⟨t2, rfl⟩ := ry
  exact PyProof.Rows.imul_int ⟨.int _, H, I.tok _, ⟨_, rfl⟩, q⟩ (by
    rcases hc with hc | hc
    · exact hc.ok
    · exact hc.ok)
def dAddI := dI0 fun i j => .int (i + j)
theorem opd_addI : OpD K (rI0 fun i j => .int (i + j)) dAddI := opd_I0 fun _ _ _ => .int _
end

end Rv
namespace Rv
open PySem L2 PySem.Spec PyProof.Rows
/-! The data layer, part C: what the generated terms use. -/
theorem Fam.u70 {ι : Type} {X : ι → Cx} {K : PySem.W.Frag} {N : List Str} {k : Nat} (F : Fam X K N k) (i : ι) : (X i).A.units + 70 < cLine := by
  have := (F.room i).un
  omega
theorem len_nil : ∀ env ds, mNil env = some ds → ds.length = 0 := fun env ds h => by
  cases h
  rfl
theorem len_cons {m : En → Option PyData} {ms : En → Option (List PyData)} {n : Nat} (h : ∀ env ds, ms env = some ds → ds.length = n) : ∀ env ds, mCons m ms env = some ds → ds.length = n + 1 := fun env ds hd => by
  obtain ⟨d, r, _, h2, h3⟩ := bind2 hd
  cases h3
  rw [List.length_cons, h env r h2]
theorem fn_none {P : Program} {w : World} {K : PySem.W.Frag} {mg : Str → Option Value} {base : Heap} {N : List Str} {x qual : Str} {st : Stmt} {f : Addr} {fd : FuncData} {ps : List Str} {j : Nat} {fm : List PyData → Option PyData} (F : Fun K x qual st f fd) (S : FnScope N ps (defScope st)) (h : ∀ ds, fm ds = none) :
    FnOk P w K mg base CX0 (j + 1) f fd ps (spD K ps.length fm) := by
  refine F.ok S (fun vs H Q E hq => ?_) fun cdv A outer s H vs Q E hr hq => ?_
  · obtain ⟨ds, d, O, hl, _⟩ := hq
    exact hl
  · obtain ⟨ds, d, O, hl, ht, hv, hf, q⟩ := hq
    rw [h] at hf
    cases hf
/-! ### comparisons as tests -/
section
variable {ι : Type} {X : ι → Cx} {K : PySem.W.Frag} {N : List Str} {k : Nat} {M : List Nat} {a b c e : Expr} {ta tb tc te : TE} {ma mb mc me : En → Option PyData} {pos : Pos}
def mTst (m : En → Option PyData) : En → Option Bool := fun env => (m env).bind fun d => match d with
  | .bool b => some b
  | _ => none
theorem snd_tst (h : Snd K M te me) : SndT K M (tTest te) (mTst me) := fun H0 O0 O σ H env x s hm Q q => by
  obtain ⟨d, h1, h2⟩ := bind1 hm
  refine h H0 O0 O σ H env d s h1 _ fun v H1 e1 hv => ?_
  cases hv with
  | bl z =>
    cases h2
    exact ⟨_, rfl, q H1 e1⟩
  | _ => cases h2
theorem t_cmp {r : R2} {op : CmpOp} {f : PyData → PyData → Option PyData} (ho : ∀ i, OpR (X i) (compareOp op) r) (hf : OpD K r f) (ha : MQ X K M a ta ma) (hb : MQ X K M b tb mb) (hm : behindInMarks op b = false := by first | exact nomark _ | rfl) : MT X K M (.Compare a [op] [b] pos) (tTest (tOp r ta tb)) (mTst (mBin f ma mb)) :=
  ⟨fun i => pt_cmpR (ho i) (ha.pe i) (hb.pe i) hm, snd_tst (snd_op hf ha.sd hb.sd)⟩
theorem t_chain {r r' : R2} {op op' : CmpOp} {f g : PyData → PyData → Option PyData} (ho : ∀ i, OpR (X i) (compareOp op) r) (hf : OpD K r f) (ho' : ∀ i, OpR (X i) (compareOp op') r') (hg : OpD K r' g) (ha : MQ X K M a ta ma) (hb : MQ X K M b tb mb) (hc : MQ X K M c tc mc) (hm : lastMarks [op, op'] [b, c] = false := by with_unfolding_all rfl) :
    MT X K M (.Compare a [op, op'] [b, c] pos) (tTest (tChain r r' ta tb tc)) (mTst (mChain f g ma mb mc)) := ⟨fun i => pt_chain (ho i) (ho' i) (ha.pe i) (hb.pe i) (hc.pe i) hm, snd_tst (d_chain (pos := pos) ho hf ho' hg ha hb hc hm).sd⟩
end
/-- the law's end -/
def spLaw (K : PySem.W.Frag) : Sp := fun vs H Q _ =>
  ∃ (at_ : Addr) (script : List Int), vs = [.ref at_] ∧ SqL K H at_ (script.map V.int) ∧
    script.length ≤ 63 ∧ ∀ H', Q (.bl true) H'
theorem law_end {P : Program} {w : World} {K : PySem.W.Frag} {mg : Str → Option Value} {base : Heap} {j : Nat} {f : Addr} {fd : FuncData} {x : Str} {fm : List PyData → Option PyData} (G : FnOk P w K mg base CX0 j f fd [x] (spD K 1 fm)) (h : ∀ ns : List Int, ns.length ≤ 63 → fm [.list (ns.map .int)] = some (.bool true)) :
    FnOk P w K mg base CX0 j f fd [x] (spLaw K) := G.imp fun vs H Q E hq => by
  obtain ⟨a, ns, rfl, hs, hl, q⟩ := hq
  refine ⟨[.list (ns.map .int)], .bool true, [], rfl, (fun l z => absurd z (by simp)), DpAll.cons (.lst ?_ (dpAll_of_ints ns)) .nil, h ns hl, fun v H2 e hv => ?_⟩
  · have e0 : cut H [] = H := by
      funext a
      exact cut_out (by simp)
    rw [e0]
    exact hs
  · cases hv
    exact q _

end Rv
namespace Rv
open PySem L2 PySem.Spec PyProof.Rows
/-! The data layer, part D: is, isinstance of several types, own lists made by list(..) and +, x[i] = v. -/
section
variable {K : PySem.W.Frag}
/-! ### is, is not: of truths, and of None -/
def dIs (neg : Bool) : PyData → PyData → Option PyData
  | .bool x, .bool y => some (.bool (decide (x = y) != neg))
  | .none, .none => some (.bool (!neg))
  | .int _, .none => some (.bool neg)
  | .bool _, .none => some (.bool neg)
  | .str _, .none => some (.bool neg)
  | .list _, .none => some (.bool neg)
  | .tuple _, .none => some (.bool neg)
  | _, _ => none
def rIsB (neg : Bool) : R2 := fun x y H Q => (∃ p q, x = .bl p ∧ y = .bl q ∧ Q (.bl (decide (p = q) != neg)) H) ∨ (y = .non ∧ Q (.bl (decide (x = .non) != neg)) H)
theorem op_isB {X : Cx} : OpR X (compareOp .Is) (rIsB false) := fun pins s σ H x y v u Q I rx ry h => by
  rcases h with ⟨p, q, ex, ey, h⟩ | ⟨ey, h⟩
  · exact op_is_bl pins s σ H x y v u Q I rx ry ⟨p, q, ex, ey, by simpa using h⟩
  · exact op_isN pins s σ H x y v u Q I rx ry ⟨ey, by simpa using h⟩
theorem op_isNotB {X : Cx} : OpR X (compareOp .IsNot) (rIsB true) := fun pins s σ H x y v u Q I rx ry h => by
  rcases h with ⟨p, q, ex, ey, h⟩ | ⟨ey, h⟩
  · exact op_isnot_bl pins s σ H x y v u Q I rx ry ⟨p, q, ex, ey, by simpa using h⟩
  · exact op_notN pins s σ H x y v u Q I rx ry ⟨ey, by simpa using h⟩
theorem opd_is (neg : Bool) : OpD K (rIsB neg) (dIs neg) := fun H O x y d1 d2 d ht h1 h2 hf Q q => by
  have go : ∀ b, PyData.bool b = d → Q (.bl b) H := fun b e => by
    subst e
    exact q _ H (Ex.refl H) (.bl b)
  unfold dIs at hf
  split at hf
  · have e1 := h1.bool
    have e2 := h2.bool
    subst e1
    subst e2
    exact .inl ⟨_, _, rfl, rfl, go _ (Option.some.inj hf)⟩
  all_goals first
    | (cases hf; done)
    | (have e2 := h2.none
       subst e2
       refine .inr ⟨rfl, ?_⟩
       have ne : ∀ b, (decide (x = V.non)) = b → PyData.bool (b != neg) = d → Q (.bl (decide (x = V.non) != neg)) H := fun b e1 e3 => by
         rw [e1]
         exact go _ e3
       first
         | (have e1 := h1.none; subst e1; exact ne true (by decide) (by rw [← Option.some.inj hf]; cases neg <;> rfl))
         | (refine ne false (decide_eq_false ?_) (by rw [← Option.some.inj hf]; cases neg <;> rfl)
            intro z
            subst z
            first
              | exact nomatch h1.int
              | exact nomatch h1.bool
              | exact nomatch h1.str
              | (obtain ⟨_, _, e, _⟩ := h1.list; exact nomatch e)
              | (obtain ⟨_, _, e, _⟩ := h1.tuple; exact nomatch e)))
/-! ### isinstance of several types -/
section
variable {ι : Type} {X : ι → Cx} {N : List Str} {k : Nat} {M : List Nat} {a b c e tg : Expr} {ta tb tc te : TE} {ma mb mc me : En → Option PyData} {pos : Pos}
theorem d_isi2 (F : Fam X K N k) (S T : String) {x y : Str} {p p1 p2 p3 : Pos} {n : Nat} (h : MQ X K M e te me) (hm : ∀ i, (X i).mg "isinstance" = none) (hmx : ∀ i, (X i).mg x = none) (hmy : ∀ i, (X i).mg y = none)
    (hS : ∀ d, (kitB (tyN d) S).isSome = true) (hT : ∀ d, (kitB (tyN d) T).isSome = true) (hb : bootBuiltins x = some (.type S)) (hb2 : bootBuiltins y = some (.type T))
    (hg : ∀ i, Gl (X i) "isinstance" := by exact fun _ => rfl) (hgx : ∀ i, Gl (X i) x := by exact fun _ => rfl) (hgy : ∀ i, Gl (X i) y := by exact fun _ => rfl) (hn : x ≠ "__name__" := by decide) (hdb : (x == ("__debug__" : Str)) = false := by decide)
    (hn2 : y ≠ "__name__" := by decide) (hdb2 : (y == ("__debug__" : Str)) = false := by decide)
    (he : ∀ i, starEach [e, .Tuple [.Name x p1, .Name y p2] n p3] (X i).env = (false, eval e (X i).env) :: starEach [.Tuple [.Name x p1, .Name y p2] n p3] (X i).env := by exact fun _ => rfl)
    (he1 : ∀ i, starEach [.Tuple [.Name x p1, .Name y p2] n p3] (X i).env = (false, eval (.Tuple [.Name x p1, .Name y p2] n p3) (X i).env) :: starEach [] (X i).env := by exact fun _ => rfl)
    (he2 : ∀ i, starEach [.Name x p1, .Name y p2] (X i).env = (false, eval (.Name x p1) (X i).env) :: starEach [.Name y p2] (X i).env := by exact fun _ => rfl)
    (he3 : ∀ i, starEach [.Name y p2] (X i).env = (false, eval (.Name y p2) (X i).env) :: starEach [] (X i).env := by exact fun _ => rfl)
    (hpl : ∀ i, (backTo pos (starEach [.Tuple [.Name x p1, .Name y p2] n p3] (X i).env)).any (·.1) = false := by exact fun _ => rfl) :
    MD X K M (.Call (.Name "isinstance" p) [e, .Tuple [.Name x p1, .Name y p2] n p3] [] pos) (tCB (rIsiT K) (tCons te (tCons (tTup (tCons (tC (.ty S)) (tCons (tC (.ty T)) tNil))) tNil))) (mIsi (fun d => isiD S d || isiD T d) me) := ⟨fun i => by
  have := pe_callB (pos := pos) (p := p) (r := rIsiT (X i).K) call_isiT (hg i) (hm i) (by decide +kernel)
    (pa_cons (h.pe i) (pa_cons (pe_tup (pa_cons (pe_bltn (v := .ty S) (hgx i) (hmx i) hb rfl hn hdb) (pa_cons (pe_bltn (v := .ty T) (hgy i) (hmy i) hb2 rfl hn2 hdb2) pa_nil (he3 i)) (he2 i))) pa_nil (he1 i)) (he i)) (by decide) (by decide) (he i) (hpl i)
  rw [F.hK i] at this
  exact this, fun H0 O0 O σ H env d s hmm Q q => by
  obtain ⟨d1, h1, h2⟩ := bind1 hmm
  cases h2
  refine h.sd H0 O0 O σ H env d1 s h1 _ fun v H1 e1 hv => ?_
  refine ⟨by show 2 ≤ sizeLine; rw [sizeLine_eq]; omega, fun tp htp => ?_⟩
  obtain ⟨r1, g1⟩ := Option.isSome_iff_exists.mp (hS d1)
  obtain ⟨r2, g2⟩ := Option.isSome_iff_exists.mp (hT d1)
  have i1 : isiD S d1 = r1 := by rw [isiD, g1]; rfl
  have i2 : isiD T d1 = r2 := by rw [isiD, g2]; rfl
  refine ⟨v, tp, [.ty S, .ty T], .type (tyN d1), [.type S, .type T], isiD S d1 || isiD T d1, rfl, upd_same, .cons (.ty S) (.cons (.ty T) .nil), tyx (dp_ex (Ex.new htp) hv.dp), ?_, q _ _ (e1.trans (Ex.new htp)) (.bl _)⟩
  rw [i1, i2]
  refine kitAny_cons (kit_ty g1) (fun z => ?_) (fun z => by rw [z]; rfl)
  rw [z, Bool.false_or]
  exact kitAny_cons (kit_ty g2) (fun z => by rw [z]; exact kitAny_nil) (fun z => z)⟩
/-! ### own lists -/
/-- x = list(e) -/
theorem f_list {p : Pos} (h : MQ X K M e te me) (hp : ∀ i, PE (X i) (.Call (.Name "list" p) [e] [] pos) (tCB (rListA K) (tCons te tNil))) : MF X K M (.Call (.Name "list" p) [e] [] pos) (tCB (rListA K) (tCons te tNil)) (mCB bList (mCons me mNil)) := ⟨hp, fun H0 O0 O σ H env d s hmm Q q => by
  obtain ⟨ds, h1, h2⟩ := bind1 hmm
  obtain ⟨d1, ds2, g1, g2, g3⟩ := bind2 h1
  cases g2
  cases g3
  refine h.sd H0 O0 O σ H env d1 s g1 _ fun v H1 e1 hv => ?_
  unfold bList at h2
  split at h2
  · rename_i ys heq
    cases heq
    cases h2
    obtain ⟨a, xs, rfl, s1, a1⟩ := hv.list
    exact ⟨a, xs, rfl, .inl s1, fun l hl => q l xs ys _ (e1.free hl) (e1.trans (Ex.new hl)) rfl upd_same (by rw [cut_cons hl]; exact a1)⟩
  · rename_i ys heq
    cases heq
    cases h2
    obtain ⟨a, xs, rfl, s1, a1, _⟩ := hv.tuple
    exact ⟨a, xs, rfl, .inr s1, fun l hl => q l xs ys _ (e1.free hl) (e1.trans (Ex.new hl)) rfl upd_same (by rw [cut_cons hl]; exact a1)⟩
  · cases h2⟩
/-- x = a + b, of lists -/
def mCat (ma mb : En → Option PyData) : En → Option PyData := fun env => (ma env).bind fun a => (mb env).bind fun b => match a, b with
  | .list us, .list vs => if us.length + vs.length ≤ sizeLine then some (.list (us ++ vs)) else none
  | _, _ => none
theorem f_cat (F : Fam X K N k) (ha : MQ X K M a ta ma) (hb : MQ X K M b tb mb) : MF X K M (.BinOp a .Add b pos) (tOp (rAdds K) ta tb) (mCat ma mb) := ⟨fun i => pe_op (op_adds (F.hK i)) (ha.pe i) (hb.pe i), fun H0 O0 O σ H env d s hm Q q => by
  obtain ⟨da, db, h1, h2, h3⟩ := bind2 hm
  refine ha.sd H0 O0 O σ H env da s h1 _ fun x H1 e1 hx => ?_
  refine hb.sd H0 O0 O σ H1 env db (s.ex e1) h2 _ fun y H2 e2 hy => ?_
  have hx := hx.ex e2
  have e12 := e1.trans e2
  split at h3
  · obtain ⟨hz, e⟩ := ite_some h3
    subst e
    obtain ⟨l, xs, rfl, s1, a1⟩ := hx.list
    obtain ⟨m, ys, rfl, s2, a2⟩ := hy.list
    refine .inr (.inr (.inl ⟨l, m, xs, ys, rfl, rfl, s1, s2, by rw [dpAll_len a1, dpAll_len a2]; exact hz, fun p hp => ?_⟩))
    exact q p (xs ++ ys) _ _ (e12.free hp) (e12.trans (Ex.new hp)) rfl upd_same (by rw [cut_cons hp]; exact dpAll_app a1 a2)
  · cases h3⟩
/-- x[i] = e, of an own list -/
def mItem (i : Nat) (mi me : En → Option PyData) : En → Option Fl := fun env => (me env).bind fun d => (mVar i env).bind fun l => (mi env).bind fun at_ => match l, at_ with
  | .list ds, .int n => (ixN ds.length n).bind fun j => some (.nx (env.set i (some (.list (ds.set j d)))))
  | _, _ => none
theorem s_item (F : Fam X K N k) (i : Nat) {x : Str} {p1 p2 : Pos} (h : MD X K M e te me) (hb : MD X K M b tb mb) (hi : i ∈ M := by decide) (hd : dictS M i = 0 := by decide) (hp : ∀ j, PE (X j) (.Name x p1) (tVar i) := by exact fun _ => pv _)
    (ha : ∀ j v, assign (.Subscript (.Name x p1) b p2) (X j).env v = (do
      let ov ← holding [v] (eval (.Name x p1) (X j).env)
      let iv ← holding [v, ov] (eval b (X j).env)
      standAt p2
      holding [v, ov, iv]
        (setItem ov iv v)
      release [v, ov, iv] []) := by exact fun _ _ => rfl)
    (hs : ∀ j, swapsWithSole [.Subscript (.Name x p1) b p2] e pos.line (X j).env = pure false := by exact fun _ => rfl) (hw : ∀ j, swappedStores [.Subscript (.Name x p1) b p2] e (X j).env = pure none := by exact fun _ => rfl)
    (h1 : ∀ j, (assignEach [.Subscript (.Name x p1) b p2] (X j).env).map (·.2) = [assign (.Subscript (.Name x p1) b p2) (X j).env] := by exact fun _ => rfl) :
    MS X K M (.Assign [.Subscript (.Name x p1) b p2] e pos) (tAsg te (gSub (tVar i) tb rSetL)) (mItem i mb me) := ⟨fun j => ps_asg (h.pe j) (pg_sub (hp j) (hb.pe j) set_list (ha j)) (hs j) (hw j) (h1 j), fun H0 O0 O σ H env fl D s hm q => by
  obtain ⟨d, g1, g2⟩ := bind1 hm
  obtain ⟨d1, d2, g3, g4, g5⟩ := bind2 g2
  obtain ⟨l, xs, ds, w1, w2, w3, rfl, w5, w6⟩ := s.lst (join_some g3) hi hd
  refine h.sd H0 O0 O σ H env d s g1 _ fun v H1 e1 hv => ?_
  refine ⟨_, w1, hb.sd H0 O0 O σ H1 env d2 (s.ex e1) g4 _ fun u H2 e2 hu => ?_⟩
  have e12 := e1.trans e2
  split at g5
  · rename_i ds' n el
    cases el
    obtain ⟨j, hj, e⟩ := bind1 g5
    cases e
    cases hu
    have s2 := s.ex e12
    refine ⟨l, xs, n, j, rfl, rfl, e12 _ _ w5, by rw [dpAll_len w6]; exact hj, ?_⟩
    refine q σ _ O (s2.write hi hd (join_some g3) w1 w2 w3 (dpAll_set j (dpAll_ex (cut_mono e12) w6) (dp_ex (cut_mono e2) hv))) ?_
    rw [cut_write w2]
    exact cut_mono e12
  · cases g5⟩
end
end

end Rv
namespace Rv
open PySem L2 PySem.Spec PyProof.Rows
/-! The data layer, part E: zip of two lists or two tuples. -/
def zipD (us vs : List PyData) : List PyData := us.zipWith (fun p q => .tuple [p, q]) vs
theorem zipD_get {us vs : List PyData} {i : Nat} {d : PyData} (h : (zipD us vs)[i]? = some d) : ∃ p q, us[i]? = some p ∧ vs[i]? = some q ∧ d = .tuple [p, q] := by
  unfold zipD at h
  rw [List.getElem?_zipWith] at h
  cases e1 : us[i]? with
  | none => rw [e1] at h; cases h
  | some p =>
    cases e2 : vs[i]? with
    | none => rw [e1, e2] at h; cases h
    | some q =>
      rw [e1, e2] at h
      exact ⟨p, q, rfl, rfl, (Option.some.inj h).symm⟩
theorem zipD_len (us vs : List PyData) : (zipD us vs).length = min us.length vs.length := by
  unfold zipD
  exact List.length_zipWith
section
variable {K : PySem.W.Frag} {H : Hp} {O : List Addr} {p q : Addr} {xs ys : List V} {us vs : List PyData} {b : Bool}
theorem wk_zipL (s1 : SqL K (cut H O) p xs) (a1 : DpAll K (cut H O) xs us) (s2 : SqL K (cut H O) q ys) (a2 : DpAll K (cut H O) ys vs) : Wk K O (Itz K p q) H (zipD us vs) b := fun H' O' e1 ht _ i => by
  have q1 : SqL K H' p xs := cut_ex.sl (e1.sl s1)
  have q2 : SqL K H' q ys := cut_ex.sl (e1.sl s2)
  refine ⟨fun d hd => ?_, fun hl => ⟨xs, ys, q1, q2, ?_⟩⟩
  · obtain ⟨l, r, hx, hy, rfl⟩ := zipD_get hd
    obtain ⟨v1, g1, t1⟩ := dpAll_get' a1 hx
    obtain ⟨v2, g2, t2⟩ := dpAll_get' a2 hy
    refine ⟨⟨xs, ys, v1, v2, q1, q2, g1, g2⟩, fun y H'' hy => ?_⟩
    obtain ⟨T, z1, z2, rfl, hT, rfl, f1, f2⟩ := hy
    have w1 : z1 = v1 := Option.some.inj ((f1 xs q1).symm.trans g1)
    have w2 : z2 = v2 := Option.some.inj ((f2 ys q2).symm.trans g2)
    subst w1
    subst w2
    exact ⟨Ex.new hT, new_tup ht hT (.cons (dp_ex e1 t1) (.cons (dp_ex e1 t2) .nil))⟩
  · rw [zipD_len] at hl
    rw [dpAll_len a1, dpAll_len a2]
    omega
theorem wk_zipT (s1 : SqT K (cut H O) p xs) (a1 : DpAll K (cut H O) xs us) (s2 : SqT K (cut H O) q ys) (a2 : DpAll K (cut H O) ys vs) : Wk K O (RZ.ItzT K p q) H (zipD us vs) b := fun H' O' e1 ht _ i => by
  have q1 : SqT K H' p xs := cut_ex.st (e1.st s1)
  have q2 : SqT K H' q ys := cut_ex.st (e1.st s2)
  refine ⟨fun d hd => ?_, fun hl => ⟨xs, ys, q1, q2, ?_⟩⟩
  · obtain ⟨l, r, hx, hy, rfl⟩ := zipD_get hd
    obtain ⟨v1, g1, t1⟩ := dpAll_get' a1 hx
    obtain ⟨v2, g2, t2⟩ := dpAll_get' a2 hy
    refine ⟨⟨xs, ys, v1, v2, q1, q2, g1, g2⟩, fun y H'' hy => ?_⟩
    obtain ⟨T, z1, z2, rfl, hT, rfl, f1, f2⟩ := hy
    have w1 : z1 = v1 := Option.some.inj ((f1 xs q1).symm.trans g1)
    have w2 : z2 = v2 := Option.some.inj ((f2 ys q2).symm.trans g2)
    subst w1
    subst w2
    exact ⟨Ex.new hT, new_tup ht hT (.cons (dp_ex e1 t1) (.cons (dp_ex e1 t2) .nil))⟩
  · rw [zipD_len] at hl
    rw [dpAll_len a1, dpAll_len a2]
    omega
end
def zpd : List PyData → Option (List PyData)
  | [.list us, .list vs] => some (zipD us vs)
  | [.tuple us, .tuple vs] => some (zipD us vs)
  | _ => none
section
variable {ι : Type} {X : ι → Cx} {K : PySem.W.Frag} {N : List Str} {k : Nat} {M : List Nat} {a b : Expr} {pos : Pos}
theorem i_zip (F : Fam X K N k) {t : TA} {ms : En → Option (List PyData)} {p tpos : Pos} {elts : List Expr} {kk : Nat} (hm : ∀ i, (X i).mg "zip" = none) (h : MA X K M [a, b] t ms) (hg : ∀ i, Gl (X i) "zip" := by exact fun _ => rfl)
    (hs : ∀ i, starEach [a, b] (X i).env = (false, eval a (X i).env) :: starEach [b] (X i).env := by exact fun _ => rfl) (hpl : ∀ i, (backTo pos (starEach [b] (X i).env)).any (·.1) = false := by exact fun _ => rfl) :
    MI X K M (.Tuple elts kk tpos) (.Call (.Name "zip" p) [a, b] [] pos) (RZ.iZipA K t) (mRng zpd ms) false := ⟨fun i => by
  have := RZ.pi_zipA (X := X i) (elts := elts) (kk := kk) (tpos := tpos) (p := p) (hg i) (hm i) (h.pa i) (hs i) (hpl i)
  rw [F.hK i] at this
  exact this, fun H0 O0 O σ H env ds s hmm R q => by
  obtain ⟨es, h1, h2⟩ := bind1 hmm
  refine h.sd H0 O0 O σ H env _ s h1 _ fun vs H1 e1 hv => ?_
  unfold zpd at h2
  split at h2
  · cases h2
    cases hv with
    | cons hx ht =>
      cases ht with
      | cons hy hn =>
        cases hn
        cases hx with
        | lst s1 a1 =>
          cases hy with
          | lst s2 a2 => exact ⟨_, _, _, _, rfl, .inl ⟨cut_ex.sl s1, cut_ex.sl s2, q _ H1 e1 (wk_zipL s1 a1 s2 a2)⟩⟩
  · cases h2
    cases hv with
    | cons hx ht =>
      cases ht with
      | cons hy hn =>
        cases hn
        cases hx with
        | tup s1 a1 =>
          cases hy with
          | tup s2 a2 => exact ⟨_, _, _, _, rfl, .inr ⟨cut_ex.st s1, cut_ex.st s2, q _ H1 e1 (wk_zipT s1 a1 s2 a2)⟩⟩
  · cases h2⟩
end

end Rv
namespace Rv
open PySem L2 PySem.Spec PyProof.Rows
/-! The data layer, part F: sets of texts, as far as len and sorted ask of them. -/
/-- the text of a set's entry -/
def txt (e : Int × Value) : Str := match e.2 with
  | .str x _ => x
  | _ => Str.empty
def IsTxt (w : World) (e : Int × Value) : Prop := ∃ (x : Str) (u : Tok), e = (hashStr w x, Value.str x u)
/-- the texts l, each once, are the set at a; it can be walked -/
structure TxtSet (w : World) (h : Heap) (a : Addr) (l : List Str) : Prop where
  obj : ∃ o es ep t, h.get? a = some o ∧ o.ExactSet ∧ o.data = .set es ep t ∧ (∀ e ∈ es.toList, IsTxt w e) ∧ (es.toList.map txt).Perm l ∧ t.fits es.size = true ∧ Ris t.place.toList ∧ (w.params.followText "set-order" = true ∨ t.led = true)
  once : l.Nodup
  few : l.length < 64
theorem TxtSet.stay {w : World} {h h2 : Heap} {a : Addr} {l : List Str} (T : TxtSet w h a l) (keep : ∀ o, h.get? a = some o → h2.get? a = some o) : TxtSet w h2 a l := by
  obtain ⟨⟨o, es, ep, t, at_, more⟩, n, f⟩ := T
  exact ⟨⟨o, es, ep, t, keep o at_, more⟩, n, f⟩
section
variable {P : Program} {w : World} {A : Around} {E : Value → Shared → Prop} {s : Shared} {a : Addr} {l : List Str}
theorem txts_elems {es : List (Int × Value)} (g : ∀ e ∈ es, IsTxt w e) : ElemsOf (strKind P w) es := fun e he => by
  obtain ⟨x, u, rfl⟩ := g e he
  exact ⟨⟨x, strKind_is P w x u, rfl⟩, rfl⟩
theorem txt_is {e : Int × Value} (g : IsTxt w e) (k : Str) : (strKind P w).is k e.2 = true ↔ txt e = k := by
  obtain ⟨x, u, rfl⟩ := g
  show ((x == k) = true) ↔ x = k
  exact beq_iff_eq
theorem scan_room {n : Nat} (h : n < 64) : n < scanBound := Nat.lt_trans h (by decide)
/-- the table laid anew, with room for what it has -/
abbrev wider (t : SetTable) (es : Array (Int × Value)) := relayAll t es (SetTable.grown es.size)
/-- how an add ends, whatever the note g of a table that gave way is -/
theorem txt_end {g : Bool → Sem Unit} (note : ∀ (b : Bool) (s2 : Shared) (R : Unit → Shared → Prop), R () s2 → wpAny (model P w) A (g b) R E s2) {o : Obj} {es es1 : Array (Int × Value)} {ep : Nat} {t t2 : SetTable} {dummy : Bool} {R : Option Bool → Shared → Prop}
    (at_ : s.heap.get? a = some o) (exact_ : o.ExactSet) (data : o.data = .set es ep t) (small : es1.size < scanBound) (fits : t2.fits es1.size = true) (rises : Ris t2.place.toList) (led : w.params.followText "set-order" = true ∨ t2.led = true)
    (goal : ∀ {h2 : Heap} {o2 : Obj} {es2 : Array (Int × Value)} {ep2 : Nat} {t3 : SetTable}, h2.get? a = some o2 → o2.ExactSet → o2.data = .set es2 ep2 t3 → es2.toList.Perm es1.toList → t3.fits es2.size = true → Ris t3.place.toList →
      (w.params.followText "set-order" = true ∨ t3.led = true) → Heap.SameBut a s.heap h2 → R (some true) { s with heap := h2 }) :
    wpAny (model P w) A (do
      storeSet a es1 t2
      if (!dummy && t2.tooFull) = true then
        do
          g (wider t2 es1).2.2
          storeSet a (wider t2 es1).1 (wider t2 es1).2.1
          pure (some true)
      else
        pure (some true)) R E s := by
  have fst := store_at (es' := es1) (t' := t2) at_ data
  have but := Heap.SameBut.update s.heap a (Obj.putSet es1 t2)
  refine wpAny_bind (wpAny_storeSet_of at_ data ?_ (fits_of_scanBound small))
  by_cases full : (!dummy && t2.tooFull) = true
  · rw [if_pos full]
    have perm := relayAll_perm t2 es1 (SetTable.grown es1.size)
    have fits3 := relayAll_fits t2 es1 (SetTable.grown es1.size)
    have rises3 := relayAll_ris t2 es1 (SetTable.grown es1.size)
    have led3 := relayAll_led t2 es1 (SetTable.grown es1.size)
    have size3 : (relayAll t2 es1 (SetTable.grown es1.size)).1.size < scanBound := by
      rw [← Array.length_toList, perm.length_eq, Array.length_toList]
      exact small
    apply wpAny_bind
    apply note
    refine wpAny_bind (wpAny_storeSet_of fst rfl ?_ (fits_of_scanBound size3))
    apply wpAny_pure
    refine goal (store_at fst rfl) exact_ rfl perm fits3 rises3 ?_ (but.trans (Heap.SameBut.update _ a _))
    rw [led3]
    exact led
  · rw [if_neg full]
    apply wpAny_pure
    exact goal fst exact_ rfl (List.Perm.refl _) fits rises led but
/-- x is laid into the set -/
def ins (k : Str) (l : List Str) : List Str := if k ∈ l then l else k :: l
theorem TxtSet.add {k : Str} {u : Tok} {Q : Bool → Shared → Prop} (T : TxtSet w s.heap a l) (room : l.length < 63)
    (goal : ∀ h2, Heap.SameBut a s.heap h2 → TxtSet w h2 a (ins k l) → Q (decide (k ∉ l)) { s with heap := h2 }) :
    wpAny (model P w) A (setAddHashed a (.str k u) ((strKind P w).hash k)) Q E s := by
  obtain ⟨⟨o, es, ep, t, at_, exact_, data, good, same, fits, rises, led⟩, once, few⟩ := T
  have size : es.size = l.length := by
    rw [← same.length_eq, List.length_map, Array.length_toList]
  have elems : ElemsOf (strKind P w) es.toList := txts_elems good
  have small : es.size < scanBound := scan_room (size ▸ few)
  have isk : (strKind P w).is k (.str k u) = true := strKind_is P w k u
  have mem : k ∈ l ↔ ∃ e ∈ es.toList, (strKind P w).is k e.2 = true := by
    rw [← same.mem_iff, List.mem_map]
    exact ⟨fun ⟨e, he, q⟩ => ⟨e, he, (txt_is (good e he) k).mpr q⟩, fun ⟨e, he, q⟩ => ⟨e, he, (txt_is (good e he) k).mp q⟩⟩
  unfold setAddHashed
  unfold setAddHashedIn
  apply wpAny_holding
  refine wpAny_bind (wpAny_setState_of at_ data fits ?_)
  dsimp only
  rw [byScan_of (knd := strKind P w) (x := Value.str k u) rfl small elems]
  simp only [↓reduceIte]
  unfold setAddByScan
  apply wpAny_bind
  apply wpAny_bind
  apply wpAny_rule
  refine wpAny_bind (wpAny_setScan_of isk at_ data fits elems ?_)
  cases look : es.toList.findIdx? (fun e => (strKind P w).is k e.2) with
  | some j =>
    dsimp only
    obtain ⟨lt, yes, _⟩ := List.findIdx?_eq_some_iff_getElem.mp look
    have there : k ∈ l := mem.mpr ⟨_, List.getElem_mem lt, yes⟩
    have q := goal s.heap (Heap.SameBut.refl a s.heap) ⟨by
      rw [ins, if_pos there]
      exact ⟨o, es, ep, t, at_, exact_, data, good, same, fits, rises, led⟩, by rw [ins, if_pos there]; exact once, by rw [ins, if_pos there]; exact few⟩
    rw [decide_eq_false (fun z => z there)] at q
    exact wpAny_pure (wpAny_pure q)
  | none =>
    dsimp only
    have away : k ∉ l := fun z => by
      obtain ⟨e, he, yes⟩ := mem.mp z
      have no := List.findIdx?_eq_none_iff.mp look e he
      rw [yes] at no
      cases no
    rw [decide_eq_true away, ins, if_neg away] at goal
    have quiet : ∀ (b : Bool) {s2 : Shared} {R : Unit → Shared → Prop}, R () s2 → wpAny (model P w) A (match b with | true => rule "set.scan.the-table-gave-way" | false => pure ()) R E s2 := fun b s2 R r => by
      cases b
      · exact wpAny_pure r
      · exact wpAny_rule r
    have p1 := layNew_perm t es ((strKind P w).hash k) (.str k u)
    have f1 := layNew_fits t es ((strKind P w).hash k) (.str k u)
    have r1 := layNew_ris t es ((strKind P w).hash k) (.str k u) rises
    have l1 := layNew_led t es ((strKind P w).hash k) (.str k u)
    revert p1 f1 r1 l1
    generalize layNew t es ((strKind P w).hash k) (.str k u) = laid
    obtain ⟨es1, t1, wasDummy, gave⟩ := laid
    intro p1 f1 r1 l1
    dsimp only at p1 f1 r1 l1 ⊢
    rw [Array.toList_push] at p1
    have p2 : es1.toList.Perm ((hashStr w k, Value.str k u) :: es.toList) := p1.trans (List.perm_append_singleton _ _)
    have sz1 : es1.size = l.length + 1 := by
      rw [← Array.length_toList, p2.length_eq, List.length_cons, Array.length_toList, size]
    have led1 : w.params.followText "set-order" = true ∨ t1.led = true := led.imp id fun z => by
      rw [l1]
      exact z
    have good1 : ∀ e ∈ es1.toList, IsTxt w e := fun e he => by
      cases p2.mem_iff.mp he with
      | head => exact ⟨k, u, rfl⟩
      | tail _ he => exact good e he
    have done_ : ∀ {h2 : Heap} {o2 : Obj} {es2 : Array (Int × Value)} {ep2 : Nat} {t2 : SetTable}, h2.get? a = some o2 → o2.ExactSet → o2.data = .set es2 ep2 t2 → es2.toList.Perm es1.toList → t2.fits es2.size = true → Ris t2.place.toList →
        (w.params.followText "set-order" = true ∨ t2.led = true) → Heap.SameBut a s.heap h2 → Q true { s with heap := h2 } := fun {h2 o2 es2 ep2 t2} g1 g2 g3 g4 g5 g6 g7 g8 =>
      goal h2 g8 ⟨⟨o2, es2, ep2, t2, g1, g2, g3, fun e he => good1 e (g4.mem_iff.mp he), (g4.map txt).trans ((p2.map txt).trans (same.cons k)), g5, g6, g7⟩, List.nodup_cons.mpr ⟨away, once⟩, by
        rw [List.length_cons]
        omega⟩
    refine wpAny_bind (quiet _ ?_)
    have small1 : es1.size < scanBound := scan_room (by omega)
    by_cases plain : t1.plain = true
    · rw [if_pos plain, hashByValue_scannable 8 (x := Value.str k u) rfl]
      apply wpAny_bind
      apply wpAny_pure
      cases plainKind (Value.str k u)
      · exact txt_end (fun b _ _ r => quiet b r) at_ exact_ data small1 (SetTable.fits_plain_off f1) r1 led1 fun g1 g2 g3 g4 g5 g6 g7 g8 => wpAny_pure (done_ g1 g2 g3 g4 g5 g6 g7 g8)
      · exact txt_end (fun b _ _ r => quiet b r) at_ exact_ data small1 f1 r1 led1 fun g1 g2 g3 g4 g5 g6 g7 g8 => wpAny_pure (done_ g1 g2 g3 g4 g5 g6 g7 g8)
    · rw [if_neg plain]
      apply wpAny_bind
      apply wpAny_pure
      exact txt_end (fun b _ _ r => quiet b r) at_ exact_ data small1 f1 r1 led1 fun g1 g2 g3 g4 g5 g6 g7 g8 => wpAny_pure (done_ g1 g2 g3 g4 g5 g6 g7 g8)
/-- the texts met up to i, each once -/
def upTo (xs : List Str) (i : Nat) : List Str := (xs.take i).foldl (fun l k => ins k l) []
theorem upTo_next {xs : List Str} {i : Nat} {k : Str} (h : xs[i]? = some k) : upTo xs (i + 1) = ins k (upTo xs i) := by
  unfold upTo
  simp only [List.take_add_one, h, List.foldl_append]
  rfl
theorem ins_len (k : Str) (l : List Str) : (ins k l).length ≤ l.length + 1 := by
  unfold ins
  split
  · exact Nat.le_succ _
  · exact Nat.le_refl _
theorem upTo_len (xs : List Str) : ∀ i, i ≤ xs.length → (upTo xs i).length ≤ i
  | 0, _ => Nat.le_refl 0
  | i + 1, h => by
    rw [upTo_next (List.getElem?_eq_getElem h)]
    have := upTo_len xs i (by omega)
    have := ins_len xs[i] (upTo xs i)
    omega
theorem txt_loop {R : Result → Shared → Prop} {I : Addr} {fp wr : List Addr} {G : Array GenState → Array GenState → Prop} {n : Nat} {Pv : Nat → Value → Prop} {St : Nat → Shared → Prop} (W : WalksS P w A.in1 I fp wr G n Pv St) (S : Addr) (apart : S ∉ fp)
    (xs : List Str) (len : n = xs.length) (few : xs.length < 64) (val : ∀ i v, Pv i v → ∃ k t, xs[i]? = some k ∧ v = .str k t) : ∀ (left i : Nat) (s : Shared), n - i = left → i ≤ n → St i s → TxtSet w s.heap S (upTo xs i) →
      (∀ s2, Moved (S :: wr) G s s2 → TxtSet w s2.heap S (upTo xs n) → R (.ok (.ret .none)) s2) →
      codeAny (model P w) A (.builtin "set.update.loop" ⟨[.ref S, .ref I], []⟩) R s
  | 0, i, s, hl, hi, st, T, goal => by
    have notW : S ∉ wr := fun z => apart (W.sub _ z)
    obtain rfl : i = n := by omega
    apply codeAny_builtin F.entry_set_update_loop
    rw [Around.under_plainId F.plain_set_update_loop]
    show wpAny _ A.in1 (pyNext (.ref I) >>= fun x => _) _ _ _
    refine wpAny_bind (W.done s _ _ st fun s2 moved => ?_)
    refine wpAny_pure (goal s2 (moved.mono fun b hb => List.mem_cons_of_mem S hb) (T.stay fun o at_ => moved.heap S o notW at_))
  | left + 1, i, s, hl, hi, st, T, goal => by
    have notW : S ∉ wr := fun z => apart (W.sub _ z)
    have more : i < n := by omega
    apply codeAny_builtin F.entry_set_update_loop
    rw [Around.under_plainId F.plain_set_update_loop]
    show wpAny _ A.in1 (pyNext (.ref I) >>= fun x => _) _ _ _
    refine wpAny_bind (W.item i s _ _ more st fun v s2 pv st2 moved => ?_)
    obtain ⟨k, u, at_k, rfl⟩ := val i v pv
    show wpAny _ A.in1 (holding [Value.str k u] (setAdd S (.str k u)) >>= fun x => _) _ _ _
    apply wpAny_bind
    apply wpAny_holding
    unfold setAdd
    apply wpAny_holding
    refine wpAny_bind ((strKind P w).pyHash (k := k) (strKind_is P w k u) ?_)
    have T2 : TxtSet w s2.heap S (upTo xs i) := T.stay fun o at_ => moved.heap S o notW at_
    have short := upTo_len xs i (by omega)
    refine TxtSet.add (s := { s2 with toks := s2.toks + 1 }) T2 (by omega) fun h3 but T3 => ?_
    rw [← upTo_next at_k] at T3
    have other : ∀ b o, b ≠ S → s2.heap.get? b = some o → h3.get? b = some o := fun b o ne at_ => by
      rw [but.2 b ne]
      exact at_
    refine wpAny_pure ⟨plainId_quiet F.plain_set_update_loop _, ?_⟩
    refine txt_loop W S apart xs len few val left (i + 1) _ (by omega) more (W.frame _ s2 _ _ st2 (Nat.le_succ _) fun b hb o at_ => other b o (fun z => apart (z ▸ hb)) at_) T3 fun s4 moved4 T4 => goal s4 (Moved.trans W.gtrans ?_ moved4) T4
    exact (moved.mono fun b hb => List.mem_cons_of_mem S hb).then_heap (Nat.le_succ _) fun b o hb at_ => other b o (fun z => hb (z ▸ List.mem_cons_self)) at_
/-- the set as it is made -/
abbrev bareSet (w : World) : Obj := { cls := .type "set", dict := none, data := .set #[] 0 (.fresh 0 0 (!w.params.followText "set-order")) }
theorem txtSet_bare {h : Heap} {b : Addr} (at_ : h.get? b = some (bareSet w)) : TxtSet w h b [] := by
  obtain ⟨S, es, ep, t, o1, o2, o3, o4, o5, o6, o7, o8, o9, o10, o11⟩ := setR_new_at (ns := []) at_
  have e : (bareSet w) = S := Option.some.inj (at_.symm.trans o1)
  subst e
  have none_ : es = #[] := by
    injection o3 with z _ _
    exact z.symm
  subst none_
  exact ⟨⟨_, _, ep, t, o1, o2, o3, (fun _ he => nomatch he), List.Perm.refl _, o8, o10, o11⟩, List.nodup_nil, by decide⟩
theorem strs_get : ∀ {us : List Value} {xs : List Str}, StrsAre us xs → ∀ (i : Nat) (v : Value), us[i]? = some v → ∃ k t, xs[i]? = some k ∧ v = .str k t
  | _, _, .nil, i, v, h => nomatch h
  | _, _, .cons x t _, 0, v, h => ⟨x, t, rfl, (Option.some.inj h).symm⟩
  | _, _, .cons _ _ rest, i + 1, v, h => strs_get rest i v h
set_option maxHeartbeats 5000000 in
theorem init_of_txts {b : Addr} {items : Array Value} {xs : List Str} (calm : A.handled = none) (isL : s.heap.IsList b items) (are : StrsAre items.toList xs) (few : xs.length < 64) :
    codeAny (model P w) A.in1 (.call (.builtin "set.__init__") ⟨[.ref s.heap.objs.size, .ref b], []⟩)
          (wants (fun r s2 => r = .none ∧ ∃ h2 tk, s2 = { s with heap := h2, toks := tk } ∧ TxtSet w h2 s.heap.objs.size (upTo xs xs.length) ∧ ∀ c o, s.heap.get? c = some o → h2.get? c = some o) E) { s with heap := s.heap.push (bareSet w) } := by
  have ft := F.called_set
  have at_ : (s.heap.push (bareSet w)).get? s.heap.objs.size = some (bareSet w) := Heap.get?_push_size _ rfl
  have type_ : Shared.TypeIs { s with heap := s.heap.push (bareSet w) } (.ref s.heap.objs.size) "set" := ⟨_, at_, rfl⟩
  apply codeAny_call_builtin ft.init.plain F.entry_set_init
  apply check_set_init_1 type_
  obtain ⟨⟨_, dict_, _, slots_⟩, atL, rfl, nl, rfl⟩ := isL
  have atL2 := Heap.get?_push_of_some (bareSet w) atL
  have ltL : b < s.heap.objs.size := Heap.lt_size atL
  have size1 : (s.heap.push (bareSet w)).objs.size = s.heap.objs.size + 1 := Heap.size_push _ _
  have isL2 : (s.heap.push (bareSet w)).IsList b items := ⟨_, atL2, rfl, nl, rfl⟩
  have no1 := F.sub_list_set
  have no2 := F.sub_list_frozenset
  have no3 : (Value.type "list" == Value.type "dict") = false := by decide
  unfold Builtin.«set.__init__»
  unfold noKeywords
  unfold Builtin.Frozenset.updateFrom
  generalize iterIs : pyIter = go
  wp_walk
  subst iterIs
  refine wpAny_pyIter_list isL2 ?_
  apply wpAny_bind
  apply wpAny_runValue
  have ne : b ≠ (s.heap.push (bareSet w)).objs.size := by
    rw [size1]
    exact Nat.ne_of_lt (Nat.lt_succ_of_lt ltL)
  have apart : s.heap.objs.size ∉ [(s.heap.push (bareSet w)).objs.size, b] := fun z => by
    rw [size1] at z
    obtain e | e := List.mem_cons.mp z
    · exact Nat.ne_of_lt (Nat.lt_succ_self _) e
    · exact Nat.ne_of_gt ltL (List.mem_singleton.mp e)
  have len : items.size = xs.length := by
    rw [← Array.length_toList]
    exact StrsAre.len_eq are
  have val : ∀ (i : Nat) (v : Value), items[i]? = some v → ∃ k t, xs[i]? = some k ∧ v = .str k t := fun i v hv => strs_get are i v (by
    rw [Array.getElem?_toList]
    exact hv)
  have W := (Walks.list (prog := P) (w := w) (A := A.in1.in1.in1) (by simp [calm]) (s.heap.push (bareSet w)).objs.size b ne items).toS
  refine txt_loop W s.heap.objs.size apart xs len few val items.size 0 _ (Nat.sub_zero _) (Nat.zero_le _) ⟨⟨_, Heap.get?_push_size _ rfl, rfl, rfl⟩, isL2.push _⟩ (txtSet_bare (Heap.get?_push_of_some _ at_)) ?_
  rintro ⟨h2, g2, d2, tk, os2⟩ moved T
  obtain rfl : g2 = s.gens := moved.gens
  obtain rfl : d2 = s.drawn := moved.drawn
  obtain rfl : os2 = s.os := moved.os
  rw [len] at T
  apply wpAny_pure
  apply wpAny_pure
  refine ⟨rfl, h2, tk, rfl, T, fun c o at_c => ?_⟩
  have ltc : c < s.heap.objs.size := Heap.lt_size at_c
  refine moved.heap c o (fun z => ?_) (Heap.get?_push_of_some _ (Heap.get?_push_of_some _ at_c))
  obtain e | e := List.mem_cons.mp z
  · exact Nat.ne_of_lt ltc e
  · have e2 := List.mem_singleton.mp e
    rw [size1] at e2
    exact Nat.ne_of_lt (Nat.lt_succ_of_lt ltc) e2
set_option maxHeartbeats 5000000 in
/-- set(xs) of a list of texts -/
theorem set_of_txts {b : Addr} {items : Array Value} {xs : List Str} {Q : Value → Shared → Prop} (calm : A.handled = none) (isL : s.heap.IsList b items) (are : StrsAre items.toList xs) (few : xs.length < 64)
    (goal : ∀ (h2 : Heap) (tk : Nat), TxtSet w h2 s.heap.objs.size (upTo xs xs.length) → (∀ c o, s.heap.get? c = some o → h2.get? c = some o) → Q (.ref s.heap.objs.size) { s with heap := h2, toks := tk }) :
    wpAny (model P w) A (call (.type "set") [.ref b]) Q E s := by
  have ft := F.called_set
  obtain ⟨_, _, mro⟩ := ft.mro
  have made := ft.made
  have sub := ft.sub
  have notType := ft.notType
  have can := ft.canCreate
  have okay := F.typeCall_set_1 (.ref b)
  apply wpAny_call
  apply codeAny_of_tree
  show wpAny _ _ (callAny (.type "set") ⟨[.ref b], []⟩) _ _ _
  apply wpAny_pure
  refine ⟨Code.quiet_builtin _ (by decide +kernel), ?_⟩
  apply codeAny_builtin F.entry_type_call
  rw [Around.under_plain (weight_type_call_type "set" [.ref b] []) rfl]
  repeat' (first | assumption | wp_step)
  have begun := code_set_led1 (P := P) (w := w) (A := A.in1) (s := s) (.ref b) (E := E) (Q₁ := fun x s1 => x = .ref s.heap.objs.size ∧ s1 = { s with heap := s.heap.push (bareSet w) }) ⟨rfl, rfl⟩
  refine codeAny_mono begun ?_
  rintro (err | flow) s1 got
  · exact got
  · cases flow with
    | ret x =>
      obtain ⟨rfl, rfl⟩ := got
      have at_ : (s.heap.push (bareSet w)).get? s.heap.objs.size = some (bareSet w) := Heap.get?_push_size _ rfl
      have type_ : Shared.TypeIs { s with heap := s.heap.push (bareSet w) } (.ref s.heap.objs.size) "set" := ⟨_, at_, rfl⟩
      have look := ft.init.lookup
      have bind_ := ft.init.bind (.ref s.heap.objs.size)
      repeat' (first | assumption | wp_step)
      have filled := init_of_txts (P := P) (w := w) (E := E) calm isL are few
      refine codeAny_mono filled ?_
      rintro (err | flow) s2 got
      · exact got
      · cases flow with
        | ret x =>
          obtain ⟨rfl, h2, tk, rfl, T, stay⟩ := got
          repeat' (first | assumption | wp_step)
          exact goal h2 tk T stay
        | _ => exact got.elim
    | _ => exact got.elim
end

end Rv
namespace Rv
open PySem L2 PySem.Spec PyProof.Rows
/-! The data layer, part G: len(set(xs)) and sorted(set(xs)) of lists of texts. -/
def leT (x y : Str) : Bool := decide (x.cps.toList ≤ y.cps.toList)
theorem leT_trans (x y z : Str) (h1 : leT x y = true) (h2 : leT y z = true) : leT x z = true :=
  decide_eq_true (List.le_trans (of_decide_eq_true h1) (of_decide_eq_true h2))
theorem leT_total (x y : Str) : (leT x y || leT y x) = true := by
  rcases List.le_total x.cps.toList y.cps.toList with h | h
  · rw [leT, decide_eq_true h]
    rfl
  · rw [leT, leT, decide_eq_true h, Bool.or_true]
theorem leT_anti {x y : Str} (h1 : leT x y = true) (h2 : leT y x = true) : x = y := by
  have e := List.le_antisymm (of_decide_eq_true h1) (of_decide_eq_true h2)
  cases x
  cases y
  exact congrArg Str.mk (Array.toList_inj.mp e)
/-- the texts of l, rising -/
def sortT (l : List Str) : List Str := l.mergeSort leT
theorem sortT_perm {l m : List Str} (p : l.Perm m) : sortT l = sortT m :=
  List.Perm.eq_of_pairwise (fun _ _ _ _ h1 h2 => leT_anti h1 h2) (List.pairwise_mergeSort leT_trans leT_total l) (List.pairwise_mergeSort leT_trans leT_total m) ((List.mergeSort_perm l leT).trans (p.trans (List.mergeSort_perm m leT).symm))
def IsS (v : Value) (x : Str) : Prop := ∃ t, v = .str x t
theorem each_txt : ∀ (vs : List Value), (∀ v ∈ vs, ∃ x t, v = Value.str x t) → PySem.W.EachIs IsS vs (vs.map strOf)
  | [], _ => .nil
  | v :: vs, h => by
    obtain ⟨x, t, rfl⟩ := h v List.mem_cons_self
    exact .cons ⟨t, rfl⟩ (each_txt vs fun u hu => h u (List.mem_cons_of_mem _ hu))
theorem each_vstr : ∀ {vs : List Value} {xs : List Str}, PySem.W.EachIs IsS vs xs → Vals (xs.map V.str) vs
  | _, _, .nil => .nil
  | _, _, .cons h r => .cons h (each_vstr r)
section
variable {P : Program} {w : World} {A : Around} {E : Value → Shared → Prop} {s : Shared} {a : Addr} {l : List Str}
theorem sorted_txts {Q : Value → Shared → Prop} (T : TxtSet w s.heap a l) (calm : A.handled = none) (units : A.units + 70 < cLine)
    (goal : ∀ (s2 : Shared) (p : Addr) (out : List Value) (c : Nat), (∀ b o, s.heap.get? b = some o → s2.heap.get? b = some o) → s2.gens = s.gens → s2.os = s.os → s.heap.objs.size ≤ p → s2.heap.get? p = some (seqObj "list" out.toArray c) → PySem.W.EachIs IsS out (sortT l) → Q (.ref p) s2) :
    wpAny (model P w) A
      (call (.builtin "sorted") [.ref a]) Q E s := by
  obtain ⟨⟨o, es, ep, t, at_, exact_, data, good, same, fits, rises, led⟩, once, few⟩ := T
  have size : es.size = l.length := by
    rw [← same.length_eq, List.length_map, Array.length_toList]
  have small : es.size < scanBound := scan_room (size ▸ few)
  refine Calls.call_function_entry kind_sorted plain_sorted entry_sorted (args_sorted1 (.ref a)) ?_
  unfold Builtin.«sorted»
  apply wpAny_bind (m := checkCount "sorted" 1 1 _)
  apply wpAny_pure
  refine wpAny_bind (collect_set (A := A.in1) (by simpa using calm) ⟨o, at_, exact_.1, data⟩ fits small rises led ?_)
  intro s1 vs keep more g1 o1 perm
  have len : vs.length = l.length := by
    rw [perm.length_eq, List.length_map, Array.length_toList, size]
  have txts : ∀ v ∈ vs, ∃ x t, v = Value.str x t := fun v hv => by
    obtain ⟨e, he, rfl⟩ := List.mem_map.mp (perm.mem_iff.mp hv)
    obtain ⟨x, u, rfl⟩ := good e he
    exact ⟨x, u, rfl⟩
  have words : (vs.map strOf).Perm l := by
    refine (perm.map strOf).trans (List.Perm.trans ?_ same)
    rw [List.map_map]
    refine List.Perm.of_eq (List.map_congr_left fun e he => ?_)
    obtain ⟨x, u, rfl⟩ := good e he
    rfl
  refine wpAny_bind (wpAny_newList ?_ (by rw [len, sizeLine_eq]; omega))
  have made : (s1.heap.push (seqObj "list" vs.toArray 0)).get? s1.heap.objs.size = some (seqObj "list" vs.toArray 0) := Heap.get?_push_size _ rfl
  have each := each_txt vs txts
  refine wpAny_bind (wpAny_holding (PySem.W.list_sort_data (R := IsS) (enc := PyData.str) (bs := vs.map strOf) made each (each.mono fun v x hv => ?_) ?_ ?_ ?_ ?_ fun out hl is => ?_))
  · obtain ⟨u, rfl⟩ := hv
    exact ⟨[], PyProof.V.reads_key_str (prog := P) (w := w) x (.str x u) (strKind_is P w x u), List.not_mem_nil⟩
  · exact PySem.W.AllAlike.of fun _ _ => rfl
  · exact PySem.W.Sortable.others fun _ => ⟨(fun z => nomatch z), (fun _ z => nomatch z)⟩
  · rw [List.length_map, len, sizeLine_eq]
    omega
  · intro x _
    show A.units + 1 + 1 + 0 < cLine
    omega
  · rw [PySem.W.dataLe_str] at is
    have is2 : PySem.W.EachIs IsS out (sortT l) := by
      rw [← sortT_perm words]
      exact is
    obtain ⟨c, at2⟩ := sortedHeap_at (vs := vs) (out := out.toArray) made
    have stays : ∀ b u, s.heap.get? b = some u → (sortedHeap (s1.heap.push (seqObj "list" vs.toArray 0)) s1.heap.objs.size vs out.toArray).get? b = some u := fun b u at_b => by
      have at_b1 := keep b u at_b
      have lt := Heap.lt_size at_b1
      rw [sortedHeap_old (Nat.ne_of_lt lt) (by rw [size_push']; exact Nat.lt_succ_of_lt lt)]
      exact Heap.get?_push_of_some _ at_b1
    generalize sortedHeap (s1.heap.push (seqObj "list" vs.toArray 0)) s1.heap.objs.size vs out.toArray = late at at2 stays ⊢
    apply wpAny_pure
    exact ⟨_, rfl, goal { s1 with heap := late } _ out c stays g1 o1 more at2 is2⟩
end
/-! ### the two readings -/
theorem strsAre_vals : ∀ {xs : List Str} {us : List Value}, Vals (xs.map V.str) us → StrsAre us xs
  | [], _, .nil => .nil
  | x :: xs, _, .cons ⟨t, h⟩ r => by
    subst h
    exact .cons x t (strsAre_vals r)
/-- set(xs), whatever is asked of it: what comes of the set is W's business -/
def tSetOf (K : PySem.W.Frag) (ta : TE) (R : List Str → Hp → VK → Prop) : TE := fun σ H Q => ta σ H fun x H1 => ∃ b xs, x = .ref b ∧ SqL K H1 b (xs.map V.str) ∧ xs.length < 64 ∧ R (upTo xs xs.length) H1 Q
def rLenT : List Str → Hp → VK → Prop := fun l H Q => Q (.int (l.length : Nat)) H
def rSortT : List Str → Hp → VK → Prop := fun l H Q => ∀ p, H p = none → Q (.ref p) (upd H p (.lst ((sortT l).map V.str)))
section
variable {X : Cx} {e : Expr} {ta : TE} {p p2 q pos : Pos}
theorem pe_lenT (calm : X.calm = true) (hg : Gl X "len") (hm : X.mg "len" = none) (hg2 : Gl X "set") (hm2 : X.mg "set" = none) (ha : PE X e ta)
    (star : starEach [e] X.env = (false, eval e X.env) :: starEach [] X.env := by rfl) : PE X (.Call (.Name "len" p) [.Call (.Name "set" p2) [e] [] q] [] pos) (tSetOf X.K ta rLenT) := by
  constructor
  intro pins st σ H Q inv wish
  refine Call_ (ld_blt inv hg hm boot_len ?_)
  refine callWith_builtin1 (args_cons (Call_ (ld_blt inv hg2 hm2 boot_set (callWith_type1 (args_cons (thn (ha.run pins st σ H _ inv wish) ?_) star) star rfl))) rfl) rfl rfl
  rintro v s1 ⟨x, H1, inv1, rel, b, xs, rfl, there, few, goal⟩
  cases rel
  obtain ⟨its, vals, plain, _⟩ := inv1.list there
  apply args_nil
  refine set_of_txts (inv1.ok.hd calm) plain.isList (by simpa using strsAre_vals vals) few fun h2 tk T stay => ?_
  obtain ⟨⟨o, es, ep, t, at_, exact_, data, _, same, fits, _⟩, _, short⟩ := T
  have size : es.size = (upTo xs xs.length).length := by
    rw [← same.length_eq, List.length_map, Array.length_toList]
  have inv2 := inv1.kept (t' := tk) stay
  apply args_nil
  exact call_len_set at_ exact_ data fits (by omega) ⟨.int ((upTo xs xs.length).length : Nat), H1, inv2.tok _, ⟨_, by rw [size]⟩, goal⟩
theorem pe_sortT (calm : X.calm = true) (units : X.A.units + 70 < cLine) (hg : Gl X "sorted") (hm : X.mg "sorted" = none) (hg2 : Gl X "set") (hm2 : X.mg "set" = none) (ha : PE X e ta)
    (star : starEach [e] X.env = (false, eval e X.env) :: starEach [] X.env := by rfl) : PE X (.Call (.Name "sorted" p) [.Call (.Name "set" p2) [e] [] q] [] pos) (tSetOf X.K ta rSortT) := by
  constructor
  intro pins st σ H Q inv wish
  refine Call_ (ld_blt inv hg hm boot_sorted ?_)
  refine callWith_builtin1 (args_cons (Call_ (ld_blt inv hg2 hm2 boot_set (callWith_type1 (args_cons (thn (ha.run pins st σ H _ inv wish) ?_) star) star rfl))) rfl) rfl rfl
  rintro v s1 ⟨x, H1, inv1, rel, b, xs, rfl, there, few, goal⟩
  cases rel
  obtain ⟨its, vals, plain, _⟩ := inv1.list there
  apply args_nil
  refine set_of_txts (inv1.ok.hd calm) plain.isList (by simpa using strsAre_vals vals) few fun h2 tk T stay => ?_
  have inv2 := inv1.kept (t' := tk) stay
  have short := T.few
  apply args_nil
  refine sorted_txts T (inv1.ok.hd calm) units fun s3 at3 out c stay3 g3 o3 above laid is => ?_
  have len : ((sortT (upTo xs xs.length)).map V.str).length ≤ sizeLine := by
    rw [List.length_map, sortT, List.length_mergeSort, sizeLine_eq]
    omega
  have free : H1 at3 = none := inv2.hok.fresh above
  have inv3 : Inv X pins σ (upd H1 at3 (.lst ((sortT (upTo xs xs.length)).map V.str))) { ({ s1 with heap := h2, toks := tk } : Shared) with heap := s3.heap, gens := s3.gens, drawn := s3.drawn, toks := s3.toks } :=
    inv2.call (ch := []) (Un.laid stay3 above free) (inv2.hok.laid stay3 above ⟨len, out, c, each_vstr is, laid⟩) (by rw [g3]; exact inv2.bare) (fun _ z => nomatch z)
  have e3 : s3 = { ({ s1 with heap := h2, toks := tk } : Shared) with heap := s3.heap, gens := s3.gens, drawn := s3.drawn, toks := s3.toks } := by
    cases s3
    cases o3
    rfl
  rw [e3]
  exact ⟨.ref at3, _, inv3, rfl, goal at3 free⟩
end
/-! ### the mirrors -/
def strsOf : List PyData → Option (List Str)
  | [] => some []
  | .str x :: ds => (strsOf ds).bind fun xs => some (x :: xs)
  | _ :: _ => none
theorem strsOf_some : ∀ {ds : List PyData} {xs : List Str}, strsOf ds = some xs → ds = xs.map .str
  | [], xs, h => by
    cases h
    rfl
  | d :: ds, xs, h => by
    cases d with
    | str x =>
      obtain ⟨ys, h1, h2⟩ := bind1 (show (strsOf ds).bind (fun xs => some (x :: xs)) = some xs from h)
      cases h2
      rw [strsOf_some h1]
      rfl
    | _ => cases h
theorem strsOf_map : ∀ xs : List Str, strsOf (xs.map .str) = some xs
  | [] => rfl
  | x :: xs => by
    show (strsOf (xs.map .str)).bind (fun ys => some (x :: ys)) = _
    rw [strsOf_map xs]
    rfl
theorem dp_strs {K : PySem.W.Frag} {H : Hp} : ∀ {vs : List V} {xs : List Str}, DpAll K H vs (xs.map .str) → vs = xs.map V.str
  | _, [], .nil => rfl
  | _, x :: xs, .cons h r => by
    cases h
    rw [dp_strs r]
    rfl
theorem str_dps {K : PySem.W.Frag} {H : Hp} : ∀ (xs : List Str), DpAll K H (xs.map V.str) (xs.map .str)
  | [] => .nil
  | x :: xs => .cons (.str x) (str_dps xs)
def sizeT (l : List Str) : PyData := .int (l.length : Nat)
def risingT (l : List Str) : PyData := .list ((sortT l).map .str)
def mSetOf (f : List Str → PyData) (m : En → Option PyData) : En → Option PyData := fun env => (m env).bind fun d => match d with
  | .list ds => (strsOf ds).bind fun xs => if xs.length < 64 then some (f (upTo xs xs.length)) else none
  | _ => none
section
variable {ι : Type} {X : ι → Cx} {K : PySem.W.Frag} {N : List Str} {k : Nat} {M : List Nat} {e : Expr} {te : TE} {me : En → Option PyData} {p p2 q pos : Pos}
theorem snd_setOf {R : List Str → Hp → VK → Prop} {f : List Str → PyData} (h : SndQ K M te me) (hR : ∀ l H O (Q : VK), (∀ b ∈ O, ∃ o, H b = some o) → (∀ v H2, Ex H H2 → Dp K (cut H2 O) v (f l) → Q v H2) → R l H Q) : Snd K M (tSetOf K te R) (mSetOf f me) := fun H0 O0 O σ H env d s hm Q q => by
  obtain ⟨d1, g1, g2⟩ := bind1 hm
  refine h H0 O0 O σ H env d1 s g1 _ fun v H1 e1 hv => ?_
  split at g2
  · obtain ⟨xs, g3, g4⟩ := bind1 g2
    obtain ⟨few, rfl⟩ := ite_some g4
    have := strsOf_some g3
    subst this
    obtain ⟨b, vs, rfl, there, all⟩ := hv.list
    have := dp_strs all
    subst this
    exact ⟨b, xs, rfl, there, few, hR _ H1 O Q (s.ex e1).there fun v H2 e2 hd => q v H2 (e1.trans e2) hd⟩
  · cases g2
theorem d_lenT (F : Fam X K N k) (h : MQ X K M e te me) (hm : ∀ i, (X i).mg "len" = none) (hm2 : ∀ i, (X i).mg "set" = none) (hg : ∀ i, Gl (X i) "len" := by exact fun _ => rfl) (hg2 : ∀ i, Gl (X i) "set" := by exact fun _ => rfl)
    (star : ∀ i, starEach [e] (X i).env = (false, eval e (X i).env) :: starEach [] (X i).env := by exact fun _ => rfl) :
    MD X K M (.Call (.Name "len" p) [.Call (.Name "set" p2) [e] [] q] [] pos) (tSetOf K te rLenT) (mSetOf sizeT me) := ⟨fun i => by
  have := pe_lenT (X := X i) (p := p) (p2 := p2) (q := q) (pos := pos) (F.calm i) (hg i) (hm i) (hg2 i) (hm2 i) (h.pe i) (star i)
  rw [F.hK i] at this
  exact this, snd_setOf h.sd fun l H O Q _ goal => goal _ H (Ex.refl H) (.int _)⟩
theorem d_sortT (F : Fam X K N k) (h : MQ X K M e te me) (hm : ∀ i, (X i).mg "sorted" = none) (hm2 : ∀ i, (X i).mg "set" = none) (hg : ∀ i, Gl (X i) "sorted" := by exact fun _ => rfl) (hg2 : ∀ i, Gl (X i) "set" := by exact fun _ => rfl)
    (star : ∀ i, starEach [e] (X i).env = (false, eval e (X i).env) :: starEach [] (X i).env := by exact fun _ => rfl) :
    MD X K M (.Call (.Name "sorted" p) [.Call (.Name "set" p2) [e] [] q] [] pos) (tSetOf K te rSortT) (mSetOf risingT me) := ⟨fun i => by
  have := pe_sortT (X := X i) (p := p) (p2 := p2) (q := q) (pos := pos) (F.calm i) (F.u70 i) (hg i) (hm i) (hg2 i) (hm2 i) (h.pe i) (star i)
  rw [F.hK i] at this
  exact this, snd_setOf h.sd fun l H O Q ht goal b hb => goal _ _ (Ex.new hb) (new_list ht hb (str_dps _))⟩
end

end Rv
namespace Rv
open PySem L2 PySem.Spec PyProof.Rows
/-! The data layer, part H: dicts whose keys are tuples; a or b of own lists; len(set(xs)) of tuples of whole numbers. -/
/-! ### keys -/
def unKey : PyData → Option Key
  | .int i => some (.inl i)
  | .str x => some (.inr x)
  | _ => none
def keysOf : List PyData → Option (List Key)
  | [] => some []
  | d :: ds => (unKey d).bind fun a => (keysOf ds).bind fun r => some (a :: r)
def keyOf : PyData → Option (List Key)
  | .tuple ds => keysOf ds
  | _ => none
theorem unKey_some {d : PyData} {a : Key} (h : unKey d = some a) : d = keyD a := by
  cases d with
  | int i =>
    cases h
    rfl
  | str x =>
    cases h
    rfl
  | _ => cases h
theorem keysOf_some : ∀ {ds : List PyData} {key : List Key}, keysOf ds = some key → ds = key.map keyD
  | [], key, h => by
    cases h
    rfl
  | d :: ds, key, h => by
    obtain ⟨a, r, h1, h2, h3⟩ := bind2 (show ((unKey d).bind fun a => (keysOf ds).bind fun r => some (a :: r)) = some key from h)
    cases h3
    rw [unKey_some h1, keysOf_some h2]
    rfl
theorem unKey_of (a : Key) : unKey (keyD a) = some a := by
  cases a <;> rfl
theorem keysOf_map : ∀ key : List Key, keysOf (key.map keyD) = some key
  | [] => rfl
  | a :: r => by
    show ((unKey (keyD a)).bind fun a => (keysOf (r.map keyD)).bind fun r => some (a :: r)) = _
    rw [unKey_of, keysOf_map r]
    rfl
theorem keyOf_tup (key : List Key) : keyOf (.tuple (key.map keyD)) = some key := keysOf_map key
section
variable {K : PySem.W.Frag}
theorem dp_keys {H : Hp} : ∀ {vs : List V} {key : List Key}, DpAll K H vs (key.map keyD) → vs = key.map kV
  | _, [], h => by
    have h' : DpAll K H _ [] := h
    cases h'
    rfl
  | _, a :: r, h => by
    have h' : DpAll K H _ (keyD a :: r.map keyD) := h
    cases h' with
    | cons h1 h2 =>
      rw [dp_keys h2]
      cases a with
      | inl i =>
        cases h1
        rfl
      | inr x =>
        cases h1
        rfl
/-! ### the entries of a dict -/
def hasD (es : List (PyData × PyData)) (key : List Key) : Bool := es.any fun e => decide (keyOf e.1 = some key)
def putD (es : List (PyData × PyData)) (key : List Key) (d : PyData) : List (PyData × PyData) :=
  if hasD es key = true then es.map (fun e => if keyOf e.1 = some key then (e.1, d) else e) else es ++ [(.tuple (key.map keyD), d)]
theorem kvd_len {H : Hp} : ∀ {kvs : List (List Key × V)} {es : List (PyData × PyData)}, KvD K H kvs es → kvs.length = es.length
  | _, _, .nil => rfl
  | _, _, .cons _ r => by
    rw [List.length_cons, List.length_cons, kvd_len r]
theorem kvd_has {H : Hp} {key : List Key} : ∀ {kvs : List (List Key × V)} {es : List (PyData × PyData)}, KvD K H kvs es → (kvs.any fun kv => decide (kv.1 = key)) = hasD es key
  | _, _, .nil => rfl
  | _, _, .cons (key := k1) _ r => by
    unfold hasD
    rw [List.any_cons, List.any_cons, kvd_has r, keyOf_tup]
    by_cases z : k1 = key
    · rw [decide_eq_true z, decide_eq_true (by rw [z])]
      rfl
    · rw [decide_eq_false z, decide_eq_false fun q => z (Option.some.inj q)]
      rfl
theorem kvd_repl {H : Hp} {key : List Key} {v : V} {d : PyData} (hv : Dp K H v d) : ∀ {kvs : List (List Key × V)} {es : List (PyData × PyData)}, KvD K H kvs es → KvD K H (kvs.map fun kv => if kv.1 = key then (kv.1, v) else kv) (es.map fun e => if keyOf e.1 = some key then (e.1, d) else e)
  | _, _, .nil => .nil
  | _, _, .cons (key := k1) h r => by
    (rw [List.map_cons, List.map_cons])
    have ih := kvd_repl (key := key) hv r
    show KvD K H ((if k1 = key then _ else _) :: _) ((if keyOf (.tuple (k1.map keyD)) = some key then _ else _) :: _)
    rw [keyOf_tup]
    by_cases z : k1 = key
    · rw [if_pos z, if_pos (by rw [z])]
      exact .cons hv ih
    · rw [if_neg z, if_neg fun q => z (Option.some.inj q)]
      exact .cons h ih
theorem kvd_app {H : Hp} {key : List Key} {v : V} {d : PyData} (hv : Dp K H v d) : ∀ {kvs : List (List Key × V)} {es : List (PyData × PyData)}, KvD K H kvs es → KvD K H (kvs ++ [(key, v)]) (es ++ [(.tuple (key.map keyD), d)])
  | _, _, .nil => .cons hv .nil
  | _, _, .cons h r => .cons h (kvd_app hv r)
theorem kvd_put {H : Hp} {key : List Key} {v : V} {d : PyData} {kvs : List (List Key × V)} {es : List (PyData × PyData)} (hv : Dp K H v d) (h : KvD K H kvs es) : KvD K H (putK kvs key v) (putD es key d) := by
  unfold putK putD
  rw [kvd_has h]
  by_cases z : hasD es key = true
  · rw [if_pos z, if_pos z]
    exact kvd_repl hv h
  · rw [if_neg z, if_neg z]
    exact kvd_app hv h
theorem put_keys {kvs : List (List Key × V)} {key : List Key} {v : V} (h : (kvs.map Prod.fst).Nodup) : ((putK kvs key v).map Prod.fst).Nodup := by
  unfold putK
  split
  · rw [List.map_map]
    have e : (kvs.map (Prod.fst ∘ fun kv => if kv.1 = key then (kv.1, v) else kv)) = kvs.map Prod.fst := by
      refine List.map_congr_left fun kv _ => ?_
      show (if kv.1 = key then (kv.1, v) else kv).1 = kv.1
      split <;> rfl
    rw [e]
    exact h
  · rename_i z
    rw [List.map_append]
    refine List.nodup_append.mpr ⟨h, by simp, fun a ha b hb => ?_⟩
    have e : b = key := by simpa using hb
    subst e
    intro q
    subst q
    apply z
    obtain ⟨kv, hkv, e1⟩ := List.mem_map.mp ha
    exact List.any_eq_true.mpr ⟨kv, hkv, decide_eq_true e1⟩
theorem kvd_vals {H : Hp} : ∀ {kvs : List (List Key × V)} {es : List (PyData × PyData)}, KvD K H kvs es → DpAll K H (kvs.map Prod.snd) (es.map Prod.snd)
  | _, _, .nil => .nil
  | _, _, .cons h r => .cons h (kvd_vals r)
theorem val_at : ∀ {kvs : List (List Key × V)} {i : Nat} {key : List Key} {v : V}, (kvs.map Prod.fst).Nodup → kvs[i]? = some (key, v) → valV kvs key = some v
  | [], i, _, _, _, h => by simp at h
  | p :: r, 0, key, v, _, h => by
    have e : p = (key, v) := Option.some.inj ((List.getElem?_cons_zero ..).symm.trans h)
    rw [valV_pos (by rw [e]), e]
  | p :: r, i + 1, key, v, hn, h => by
    (rw [List.map_cons, List.nodup_cons] at hn)
    have h' : r[i]? = some (key, v) := by simpa using h
    have ne : ¬ p.1 = key := fun q => hn.1 (by
      rw [q]
      exact List.mem_map.mpr ⟨(key, v), List.mem_of_getElem? h', rfl⟩)
    rw [valV_neg ne]
    exact val_at hn.2 h'
end
section
variable {ι : Type} {X : ι → Cx} {K : PySem.W.Frag} {N : List Str} {k : Nat} {M : List Nat} {a b c e tg : Expr} {ta tb tc te : TE} {ma mb mc me : En → Option PyData} {pos : Pos}
/-! ### x = {} -/
theorem s_dnew (F : Fam X K N k) (i : Nat) {x : Str} {pos' p1 : Pos} (hi : i ∈ M := by decide) (hd : dictS M i = 1 := by decide) (hx : N[i]? = some x := by rfl) (hl : ∀ j, Loc (X j).env.scope x := by first | exact fun _ => Or.inl rfl | exact fun _ => Or.inr rfl) (hs : ∀ j, swapsWith (.Dict [] [] p1) (some (.Name x pos')) pos.line (X j).env = pure false := by exact fun _ => rfl)
    (hf : ∀ j, (X j).fn x = true ∨ (X j).env.scope.names.lookup x = some .local := by first | exact fun _ => .inl rfl | exact fun _ => .inr rfl) : MS X K M (.Assign [.Name x pos'] (.Dict [] [] p1) pos) (tAsg tDNewT (gName i)) (mAsg (mC (.dict [])) (gB i)) :=
  ⟨fun j => ps_set (by rw [F.hN j]; exact F.nd) (by rw [F.hN j]; exact hx) (hl j) pe_dnewT (hs j) (hf j), fun H0 O0 O σ H env fl D s hm q => by
    cases hm
    intro p hp
    have ds := hd
    refine q _ _ (p :: O) (s.ownG (H' := upd H p (.dT [])) hi hp (Ex.new hp) upd_same (by
      rw [ds]
      exact ⟨[], [], rfl, rfl, .nil, List.nodup_nil⟩)) ?_
    rw [cut_cons hp]
    exact Ex.refl _⟩
/-! ### x[tuple(e)] = v -/
def mPutT (i : Nat) (me mv : En → Option PyData) : En → Option Fl := fun env => (mv env).bind fun d => (mVar i env).bind fun l => (me env).bind fun a => match l, a with
  | .dict es, .list ks => (keysOf ks).bind fun key => if es.length < sizeLine then some (.nx (env.set i (some (.dict (putD es key d))))) else none
  | _, _ => none
theorem s_dput (F : Fam X K N k) (i : Nat) {x : Str} {p1 p2 p3 p4 : Pos} {value : Expr} {tv : TE} {mv : En → Option PyData} (hv : MD X K M value tv mv) (h : MQ X K M e te me)
    (hk : ∀ j, PE (X j) (.Call (.Name "tuple" p2) [e] [] p3) (tCB (rTupleA K) (tCons te tNil))) (hi : i ∈ M := by decide) (hd : dictS M i = 1 := by decide) (hp : ∀ j, PE (X j) (.Name x p1) (tVar i) := by exact fun _ => pv _)
    (hs : ∀ j, swapsWith value (some (.Subscript (.Name x p1) (.Call (.Name "tuple" p2) [e] [] p3) p4)) pos.line (X j).env = pure false := by exact fun _ => rfl) :
    MS X K M (.Assign [.Subscript (.Name x p1) (.Call (.Name "tuple" p2) [e] [] p3) p4] value pos) (sDPut (tVar i) (tCB (rTupleA K) (tCons te tNil)) tv) (mPutT i me mv) :=
  ⟨fun j => ps_dput (by have := F.u64 j; omega) (hp j) (hk j) (hv.pe j) (hs j), fun H0 O0 O σ H env fl D s hm q => by
    obtain ⟨d, g1, g2⟩ := bind1 hm
    obtain ⟨d1, d2, g3, g4, g5⟩ := bind2 g2
    obtain ⟨l, kvs, es, w1, w2, w3, rfl, w5, w6, w7⟩ := s.dct (join_some g3) hi hd
    refine hv.sd H0 O0 O σ H env d s g1 _ fun v H1 e1 hvd => ⟨_, w1, h.sd H0 O0 O σ H1 env d2 (s.ex e1) g4 _ fun u H2 e2 hu => ?_⟩
    have e12 := e1.trans e2
    split at g5
    · rename_i es' ks el
      cases el
      obtain ⟨key, hkey, g6⟩ := bind1 g5
      obtain ⟨hz, rfl⟩ := ite_some g6
      have := keysOf_some hkey
      subst this
      obtain ⟨b, xs, rfl, sq, ha⟩ := hu.list
      have := dp_keys ha
      subst this
      refine ⟨b, key.map kV, rfl, .inl ⟨sq, fun t ht => ?_⟩⟩
      have e3 := e12.trans (Ex.new (thing := .tup (key.map kV)) ht)
      have s3 := s.ex e3
      have hl3 : upd H2 t (.tup (key.map kV)) l = some (.dT kvs) := e3 _ _ w5
      refine ⟨l, _, rfl, DPut.t hl3 upd_same (by rw [kvd_len w6]; exact hz), ?_⟩
      have ds := hd
      refine q σ _ O (s3.writeG hi (join_some g3) w1 w2 w3 (by
        rw [ds]
        exact ⟨_, _, rfl, rfl, kvd_put (dp_ex (cut_mono (e2.trans (Ex.new ht))) hvd) (kvd_ex (cut_mono e3) w6), put_keys w7⟩)) ?_
      rw [cut_write w2]
      exact cut_mono e3
    · cases g5⟩
/-! ### [x[y] for y in x] -/
def mVals (i j : Nat) : En → Option PyData := fun env => (mVar i env).bind fun d => match d with
  | .dict es => if j < env.length ∧ es.length ≤ sizeLine then some (.list (es.map Prod.snd)) else none
  | _ => none
theorem d_dvals (F : Fam X K N k) (i j : Nat) {x y : Str} {p1 p2 p3 p4 p5 : Pos} {scope sc : Scope} (hsc : ∀ q, (X q).env.scope = sc) (ok : BlkOk N sc scope [(y, j)]) (hg : MG (blkF X scope) K M (.Name y p3) (gName j) (gB j))
    (hi : i ∈ M := by decide) (hd : dictS M i = 1 := by decide) (hij : i ≠ j := by decide) (hpx : ∀ q, PE (X q) (.Name x p4) (tVar i) := by exact fun _ => pv _) (hpx2 : ∀ q, PE (blkF X scope q) (.Name x p1) (tVar i) := by exact fun _ => pv _)
    (hpy : ∀ q, PE (blkF X scope q) (.Name y p2) (tVar j) := by exact fun _ => pv _) (hs : ∀ q z, foldedSetIterable (.Name x p4) (X q).env z = pure z := by exact fun _ _ => rfl) (hns : NoSl (.Name y p2) := by exact fun _ _ => rfl) :
    MD X K M (.ListComp (.Subscript (.Name x p1) (.Name y p2) p5) [⟨.Name y p3, .Name x p4, [], 0⟩] scope pos) (tLockE (tLc (iKeys (tVar i)) (gName j) tYes (tDGet (tVar i) (tVar j)) [j])) (mVals i j) :=
  ⟨fun q => pe_lock (pe_lc (own := [(y, j)]) (F.calm q) (by rw [F.hN q]; exact F.nd) (pi_keys (hpx q)) (by rw [F.hN q, hsc q]; exact ok) (fun s H C cl fp => hg.pg ⟨q, s, H, C, cl, fp⟩) (fun s H C cl fp => pts_nil) (fun s H C cl fp => pe_dget (Nat.lt_of_le_of_lt (Nat.add_le_add_left (show 1 ≤ 64 by decide) _) ((F.blk scope).u64 ⟨q, s, H, C, cl, fp⟩)) (hpx2 ⟨q, s, H, C, cl, fp⟩) (hpy ⟨q, s, H, C, cl, fp⟩) hns) (hs q)),
  fun H0 O0 O σ H env d s hm Q q => by
    obtain ⟨d1, g1, g2⟩ := bind1 hm
    obtain ⟨l, kvs, es, w1, w2, w3, rfl, w5, w6, w7⟩ := s.dct (join_some g1) hi hd
    obtain ⟨⟨hj, hz⟩, rfl⟩ := ite_some (show (if j < env.length ∧ es.length ≤ sizeLine then some (PyData.list (es.map Prod.snd)) else none) = some d from g2)
    have hjs : j < σ.length := by rw [s.len]; exact hj
    have wl : ∀ i2, i2 ≠ j → (wipe σ [j])[i2]? = σ[i2]? := fun i2 hn => by
      show (σ.set j none)[i2]? = _
      rw [List.getElem?_set_ne (fun z => hn z.symm)]
    refine ⟨l, .dT kvs, w5, True.intro, fun od => ⟨_, w1, l, od, rfl, .inr ⟨kvs, upd_same, fun D hD => ?_⟩⟩⟩
    have hDl : D ≠ l := fun z => by
      rw [z, upd_same] at hD
      cases hD
    have hDH : H D = none := by
      rw [upd_ne hDl] at hD
      exact hD
    have frzL : ∀ acc : HO, upd (upd H l (.frz od (.dT kvs))) D acc l = some (.frz od (.dT kvs)) := fun acc => by
      rw [upd_ne (fun z => hDl z.symm), upd_same]
    refine ⟨fun n m H' => n ≤ kvs.length ∧ m = kvs.length - n ∧ H' = upd (upd H l (.frz od (.dT kvs))) D (.lst ((kvs.take n).map Prod.snd)), ⟨kvs.length, Nat.zero_le _, rfl, rfl⟩, fun n m H' w => ?_⟩
    obtain ⟨hn, rfl, rfl⟩ := w
    by_cases hlt : n < kvs.length
    · refine .inr ⟨⟨frzL _, hlt⟩, fun H2 => H2 = upd (upd H l (.frz od (.dT kvs))) D (.lst ((kvs.take (n + 1)).map Prod.snd)), fun H2 e2 => ⟨kvs.length - (n + 1), by omega, by omega, rfl, e2⟩, fun z H2 hy => ?_⟩
      obtain ⟨rfl, key, v, qa, hk, rfl, hq⟩ := hy
      refine ⟨(wipe_set (vs := [j]) List.mem_cons_self).trans (wipe_wipe [j]), ?_⟩
      show ∃ _, _
      refine ⟨_, (by rw [List.getElem?_set_ne (fun z => hij z.symm), wl i hij]; exact w1), _, List.getElem?_set_self (by show j < (σ.set j none).length; rw [List.length_set]; exact hjs), l, v, rfl, .inr ⟨kvs, key, qa, .inr ⟨od, frzL _⟩, rfl, hq, (val_at w7 hk).symm⟩, ?_⟩
      refine ⟨_, upd_same, ?_, ?_⟩
      · have := kvd_len w6
        rw [List.length_map, List.length_take]
        omega
      · rw [upd_upd, List.take_add_one, hk, List.map_append]
        rfl
    · have e : n = kvs.length := by omega
      subst e
      refine .inl ⟨⟨frzL _, Nat.le_refl _⟩, frzL _, ?_⟩
      rw [List.take_length]
      have x2 : Ex H (upd (upd (upd H l (.frz od (.dT kvs))) D (.lst (kvs.map Prod.snd))) l (.dT kvs)) := fun p o hp => by
        by_cases z : p = l
        · subst z
          rw [upd_same]
          rw [w5] at hp
          exact hp
        · have zD : p ≠ D := fun y => by
            rw [y, hDH] at hp
            cases hp
          rw [upd_ne z, upd_ne zD, upd_ne z]
          exact hp
      refine q _ _ x2 (.lst (.inl (.inl ?_)) (dpAll_ex (cut_mono x2) (kvd_vals w6)))
      rw [cut_out (s.new hDH), upd_ne hDl, upd_same]⟩
/-! ### a or b, where b may be an own list -/
theorem q_one {op : BoolOp} (h : MQ X K M e te me) : MQ X K M (.BoolOp op [e] pos) te me := ⟨fun i => pe_one (h.pe i), h.sd⟩
theorem q_or (F : Fam X K N k) {rest : List Expr} (ha : MQ X K M a ta ma) (hb : MQ X K M (.BoolOp .Or (b :: rest) pos) tb mb) : MQ X K M (.BoolOp .Or (a :: b :: rest) pos) (tOrT K ta tb) (mOr ma mb) := ⟨fun i => by
  have := pe_orT (ha.pe i) (hb.pe i)
  rw [F.hK i] at this
  exact this, fun H0 O0 O σ H env d s hm Q q => by
  obtain ⟨d1, h1, h2⟩ := bind1 hm
  obtain ⟨c, h3, h4⟩ := bind1 h2
  refine ha.sd H0 O0 O σ H env d1 s h1 _ fun v H1 e1 hv => ⟨c, tru_dp hv.dp h3, ?_⟩
  cases c with
  | true =>
    rw [if_pos rfl] at h4 ⊢
    cases h4
    exact q v H1 e1 hv
  | false =>
    rw [if_neg Bool.false_ne_true] at h4 ⊢
    exact hb.sd H0 O0 O σ H1 env d (s.ex e1) h4 Q fun w H2 e2 hw => q w H2 (e1.trans e2) hw⟩
end
/-! ### len(set(xs)), xs tuples of whole numbers -/
def insU (x : List Int) (l : List (List Int)) : List (List Int) := if x ∈ l then l else x :: l
def onceU (xs : List (List Int)) : List (List Int) := xs.foldl (fun l x => insU x l) []
theorem onceU_go : ∀ (xs l : List (List Int)), l.Nodup → (xs.foldl (fun l x => insU x l) l).Nodup ∧ ∀ x, x ∈ xs.foldl (fun l x => insU x l) l ↔ x ∈ xs ∨ x ∈ l
  | [], l, h => ⟨h, fun x => by simp⟩
  | y :: xs, l, h => by
    have h1 : (insU y l).Nodup := by
      unfold insU
      split
      · exact h
      · rename_i z
        exact List.nodup_cons.mpr ⟨z, h⟩
    obtain ⟨n, m⟩ := onceU_go xs (insU y l) h1
    refine ⟨n, fun x => ?_⟩
    show x ∈ xs.foldl (fun l x => insU x l) (insU y l) ↔ _
    rw [m x]
    unfold insU
    split
    · rename_i z
      constructor
      · rintro (q | q)
        · exact .inl (List.mem_cons_of_mem _ q)
        · exact .inr q
      · rintro (q | q)
        · cases q with
          | head => exact .inr z
          | tail _ q => exact .inl q
        · exact .inr q
    · constructor
      · rintro (q | q)
        · exact .inl (List.mem_cons_of_mem _ q)
        · cases q with
          | head => exact .inl List.mem_cons_self
          | tail _ q => exact .inr q
      · rintro (q | q)
        · cases q with
          | head => exact .inr List.mem_cons_self
          | tail _ q => exact .inl q
        · exact .inr (List.mem_cons_of_mem _ q)
theorem onceU_nodup (xs : List (List Int)) : (onceU xs).Nodup := (onceU_go xs [] List.nodup_nil).1
theorem onceU_mem (xs : List (List Int)) (x : List Int) : x ∈ onceU xs ↔ x ∈ xs := by
  have h := (onceU_go xs [] List.nodup_nil).2 x
  unfold onceU
  rw [h]
  simp
theorem nodup_le {α : Type} [DecidableEq α] : ∀ {as bs : List α}, as.Nodup → (∀ a ∈ as, a ∈ bs) → as.length ≤ bs.length
  | [], _, _, _ => (Nat.zero_le _)
  | a :: as, bs, n, h => by
    have n1 := List.nodup_cons.mp n
    have ih := nodup_le (as := as) (bs := bs.erase a) n1.2 fun x hx => by
      have hne : x ≠ a := fun z => n1.1 (z ▸ hx)
      exact (List.mem_erase_of_ne hne).mpr (h x (List.mem_cons_of_mem _ hx))
    have e := List.length_erase_of_mem (h a List.mem_cons_self)
    have := List.length_pos_of_mem (h a List.mem_cons_self)
    rw [List.length_cons]
    omega
def tupsOf : List PyData → Option (List (List Int))
  | [] => some []
  | .tuple ds :: r => (intsOf ds).bind fun ns => (tupsOf r).bind fun rs => some (ns :: rs)
  | _ :: _ => none
theorem tupsOf_some : ∀ {ds : List PyData} {ks : List (List Int)}, tupsOf ds = some ks → ds = ks.map fun ns => .tuple (ns.map .int)
  | [], ks, h => by
    cases h
    rfl
  | d :: ds, ks, h => by
    cases d with
    | tuple xs =>
      obtain ⟨ns, rs, h1, h2, h3⟩ := bind2 (show ((intsOf xs).bind fun ns => (tupsOf ds).bind fun rs => some (ns :: rs)) = some ks from h)
      cases h3
      rw [tupsOf_some h2, intsOf_some h1]
      rfl
    | _ => cases h
theorem tupsOf_map : ∀ ks : List (List Int), tupsOf (ks.map fun ns => .tuple (ns.map .int)) = some ks
  | [] => rfl
  | ns :: ks => by
    show ((intsOf (ns.map .int)).bind fun ns => (tupsOf (ks.map fun ns => .tuple (ns.map .int))).bind fun rs => some (ns :: rs)) = _
    rw [intsOf_map, tupsOf_map ks]
    rfl
theorem dp_tups {K : PySem.W.Frag} {H : Hp} : ∀ {vs : List V} {ks : List (List Int)}, DpAll K H vs (ks.map fun ns => .tuple (ns.map .int)) → ∃ ps : List (Addr × List Int), vs = ps.map (fun p => V.ref p.1) ∧ ps.map Prod.snd = ks ∧ ∀ p ∈ ps, SqT K H p.1 (p.2.map V.int)
  | _, [], h => by
    have h' : DpAll K H _ [] := h
    cases h'
    exact ⟨[], rfl, rfl, fun _ z => nomatch z⟩
  | _, ns :: ks, h => by
    have h' : DpAll K H _ (.tuple (ns.map .int) :: ks.map fun ns => .tuple (ns.map .int)) := h
    cases h' with
    | cons h1 h2 =>
      obtain ⟨ps, e1, e2, e3⟩ := dp_tups h2
      cases h1 with
      | tup sq al =>
        have := dpAll_ints al
        subst this
        rename_i t
        refine ⟨(_, ns) :: ps, by rw [e1]; rfl, by rw [← e2]; rfl, fun p hp => ?_⟩
        cases hp with
        | head => exact sq
        | tail _ hp => exact e3 p hp
/-- set(xs), and how many there are -/
def tSetU (K : PySem.W.Frag) (ta : TE) : TE := fun σ H Q => ta σ H fun x H1 => ∃ (b : Addr) (ps : List (Addr × List Int)), x = .ref b ∧ SqL K H1 b (ps.map fun p => V.ref p.1) ∧ (∀ p ∈ ps, SqT K H1 p.1 (p.2.map V.int)) ∧ ps.length < 64 ∧ Q (.int ((onceU (ps.map Prod.snd)).length : Nat)) H1
section
variable {X : Cx} {e : Expr} {ta : TE} {p p2 q pos : Pos}
theorem pe_lenU (calm : X.calm = true) (hu : X.A.units + 70 < cLine) (hg : Gl X "len") (hm : X.mg "len" = none) (hg2 : Gl X "set") (hm2 : X.mg "set" = none) (ha : PE X e ta)
    (star : starEach [e] X.env = (false, eval e X.env) :: starEach [] X.env := by rfl) : PE X (.Call (.Name "len" p) [.Call (.Name "set" p2) [e] [] q] [] pos) (tSetU X.K ta) := by
  constructor
  intro pins st σ H Q inv wish
  refine Call_ (ld_blt inv hg hm boot_len ?_)
  refine callWith_builtin1 (args_cons (Call_ (ld_blt inv hg2 hm2 boot_set (callWith_type1 (args_cons (thn (ha.run pins st σ H _ inv wish) ?_) star) star rfl))) rfl) rfl rfl
  rintro v s1 ⟨x, H1, inv1, rel, b, ps, rfl, there, each, few, goal⟩
  cases rel
  obtain ⟨its, vals, plain, _⟩ := inv1.list there
  apply args_nil
  refine call_set_tups (P := X.prog) (w := X.w) ps (inv1.ok.hd calm) plain.isList (by simpa using refs_of_vals vals) (fun z hz => inv1.isT (each z hz)) few (by omega) fun h2 tk L es ep t R g stay => ?_
  have inv2 := inv1.kept (t' := tk) stay
  obtain ⟨o, at_, exact_, data⟩ := R.ob
  have size : es.size = L.length := by
    have h := (congrArg List.length R.rows)
    unfold rowsOf at h
    (rw [Array.length_toList, List.length_map] at h)
    exact h
  have same : L.length = (onceU (ps.map Prod.snd)).length := by
    have e1 : L.length = (L.map Prod.snd).length := by rw [List.length_map]
    rw [e1]
    refine Nat.le_antisymm (nodup_le R.nd fun z hz => ?_) (nodup_le (onceU_nodup _) fun z hz => ?_)
    · obtain ⟨w, hw, rfl⟩ := List.mem_map.mp hz
      exact (onceU_mem _ _).mpr (List.mem_map.mpr ⟨w, List.mem_of_mem_take (g.sub w hw), rfl⟩)
    · obtain ⟨w, hw, rfl⟩ := List.mem_map.mp ((onceU_mem _ _).mp hz)
      exact g.all w (by rw [List.take_length]; exact hw)
  apply args_nil
  have short := R.few
  refine call_len_set at_ exact_ data (SetTR.fits (s := { s1 with heap := h2, toks := tk }) R) (by omega) ⟨.int ((onceU (ps.map Prod.snd)).length : Nat), H1, inv2.tok _, ⟨_, by rw [size, same]⟩, goal⟩
end
def mLenU (m : En → Option PyData) : En → Option PyData := fun env => (m env).bind fun d => match d with
  | .list ds => (tupsOf ds).bind fun ks => if ks.length < 64 then some (.int ((onceU ks).length : Nat)) else none
  | _ => none
section
variable {ι : Type} {X : ι → Cx} {K : PySem.W.Frag} {N : List Str} {k : Nat} {M : List Nat} {e : Expr} {te : TE} {me : En → Option PyData} {p p2 q pos : Pos}
theorem d_lenU (F : Fam X K N k) (h : MQ X K M e te me) (hm : ∀ i, (X i).mg "len" = none) (hm2 : ∀ i, (X i).mg "set" = none) (hg : ∀ i, Gl (X i) "len" := by exact fun _ => rfl) (hg2 : ∀ i, Gl (X i) "set" := by exact fun _ => rfl)
    (star : ∀ i, starEach [e] (X i).env = (false, eval e (X i).env) :: starEach [] (X i).env := by exact fun _ => rfl) :
    MD X K M (.Call (.Name "len" p) [.Call (.Name "set" p2) [e] [] q] [] pos) (tSetU K te) (mLenU me) := ⟨fun i => by
  have := pe_lenU (X := X i) (p := p) (p2 := p2) (q := q) (pos := pos) (F.calm i) (F.u70 i) (hg i) (hm i) (hg2 i) (hm2 i) (h.pe i) (star i)
  rw [F.hK i] at this
  exact this, fun H0 O0 O σ H env d s hmm Q q => by
  obtain ⟨d1, g1, g2⟩ := bind1 hmm
  refine h.sd H0 O0 O σ H env d1 s g1 _ fun v H1 e1 hv => ?_
  split at g2
  · obtain ⟨ks, g3, g4⟩ := bind1 g2
    obtain ⟨few, rfl⟩ := ite_some g4
    have := tupsOf_some g3
    subst this
    obtain ⟨b, vs, rfl, there, all⟩ := hv.list
    obtain ⟨ps, rfl, rfl, each⟩ := dp_tups all
    exact ⟨b, ps, rfl, there, fun z hz => cut_ex.st (each z hz), by rw [List.length_map] at few; exact few, q _ H1 e1 (.int _)⟩
  · cases g2⟩
end

end Rv
namespace Rv
open PySem L2 PySem.Spec PyProof.Rows
/-! The data layer, part I: places that are never reached; dicts of the module; min, count; while, pop, extend; dicts by texts; replace. -/
section
variable {ι : Type} {X : ι → Cx} {K : PySem.W.Frag} {N : List Str} {k : Nat} {M : List Nat} {a b c e tg : Expr} {ta tb tc te : TE} {ma mb mc me : En → Option PyData} {pos : Pos}
/-! ### what is never reached -/
theorem d_dead : MD X K M e (fun _ _ _ => False) (fun _ => none) := ⟨fun _ => ⟨fun _ _ _ _ _ _ h => h.elim⟩, fun _ _ _ _ _ _ _ _ hm => nomatch hm⟩
theorem s_dead {st : Stmt} : MS X K M st (fun _ _ _ => False) (fun _ => none) := ⟨fun _ => ⟨fun _ _ _ _ _ _ h => h.elim⟩, fun _ _ _ _ _ _ _ _ _ hm => nomatch hm⟩
end
/-! ### dicts of the module -/
def tabAt (tab : List (Str × PyData)) (z : Str) : Option PyData := (tab.find? fun e => decide (e.1 = z)).map Prod.snd
inductive EntD (K : PySem.W.Frag) : List DictEntry → List (Str × PyData) → Prop
  | nil : EntD K [] []
  | cons {h : Int} {x : Str} {t : Tok} {u : Value} {v : V} {d : PyData} {es : List DictEntry} {tab : List (Str × PyData)} : RelV v u → (∀ H, Dp K H v d) → EntD K es tab → EntD K (⟨h, .str x t, u⟩ :: es) ((x, d) :: tab)
section
variable {K : PySem.W.Frag}
theorem ent_find (z : Str) : ∀ {l : List DictEntry} {tab : List (Str × PyData)}, EntD K l tab → (tabAt tab z = none → l.find? (·.key.isStr z) = none) ∧ ∀ p, tabAt tab z = some p → ∃ en v, l.find? (·.key.isStr z) = some en ∧ RelV v en.val ∧ ∀ H, Dp K H v p
  | _, _, .nil => ⟨fun _ => rfl, fun p h => nomatch h⟩
  | _, _, @EntD.cons _ h x t u v d es tab rl dp r => by
    have ih := ent_find z r
    by_cases q : x = z
    · have e1 : tabAt ((x, d) :: tab) z = some d := by
        unfold tabAt
        rw [List.find?_cons]
        simp [q]
      have e2 : ((⟨h, .str x t, u⟩ : DictEntry) :: es).find? (·.key.isStr z) = some ⟨h, .str x t, u⟩ := by
        rw [List.find?_cons]
        show (match (x == z) with | true => _ | false => _) = _
        rw [beq_iff_eq.mpr q]
      rw [e1, e2]
      refine ⟨fun w => (nomatch w), fun p w => ?_⟩
      cases w
      exact ⟨_, v, rfl, rl, dp⟩
    · have e1 : tabAt ((x, d) :: tab) z = tabAt tab z := by
        unfold tabAt
        rw [List.find?_cons]
        simp [q]
      have e2 : ((⟨h, .str x t, u⟩ : DictEntry) :: es).find? (·.key.isStr z) = es.find? (·.key.isStr z) := by
        rw [List.find?_cons]
        show (match (x == z) with | true => _ | false => _) = _
        rw [beq_eq_false_iff_ne.mpr q]
      rw [e1, e2]
      exact ih
theorem ent_ref : ∀ {l : List DictEntry} {tab : List (Str × PyData)}, EntD K l tab → l.any (·.refKey) = false
  | _, _, .nil => rfl
  | _, _, .cons _ _ r => by
    rw [List.any_cons, ent_ref r]
    rfl
theorem ns_none {d : Addr} {es : Array DictEntry} {n : Nat} {tab : List (Str × PyData)} {z : Str} (hl : K.lookup d = some ⟨.type "dict", none, .dict es n, #[]⟩) (h : EntD K es.toList tab) (hz : tabAt tab z = none) : PySem.W.nsIn K d z = some none := by
  unfold PySem.W.nsIn
  rw [hl]
  dsimp only
  rw [(ent_find z h).1 hz, ent_ref h]
  rfl
theorem ns_some {d : Addr} {es : Array DictEntry} {n : Nat} {tab : List (Str × PyData)} {z : Str} {p : PyData} (hl : K.lookup d = some ⟨.type "dict", none, .dict es n, #[]⟩) (h : EntD K es.toList tab) (hz : tabAt tab z = some p) : ∃ u v, PySem.W.nsIn K d z = some (some u) ∧ RelV v u ∧ ∀ H, Dp K H v p := by
  obtain ⟨en, v, e1, e2, e3⟩ := (ent_find z h).2 p hz
  refine ⟨en.val, v, ?_, e2, e3⟩
  unfold PySem.W.nsIn
  rw [hl]
  dsimp only
  rw [e1]
/-- a dict of the module, by its table -/
def KDt (K : PySem.W.Frag) (w : World) (d : Addr) (tab : List (Str × PyData)) : Prop := ∃ es n, KDict K w d es n ∧ EntD K es.toList tab
theorem kd_none {X : Cx} {d : Addr} {es : Array DictEntry} {n : Nat} (D : KDict X.K X.w d es n) : OpR X (compareOp .In) (fun x y H Q => x = .non ∧ y = .ref d ∧ Q (.bl false) H) := by
  (intro pins s σ H x y v u Q I rx ry h)
  obtain ⟨rfl, rfl, q⟩ := h
  obtain rfl : v = Value.none := rx
  obtain rfl : u = Value.ref d := ry
  have mp : s.heap.MapOf (noneKind X.prog X.w) d (fun key => findBy (noneKind X.prog X.w).is es key) := ⟨_, es, n, I.kIn _ _ D.at_, ⟨rfl, rfl, rfl⟩, rfl, fun en he => by
    obtain ⟨x, t, e1, e2⟩ := D.lit.all en (Array.mem_toList_iff.mpr he)
    refine ⟨some (.inr x), ?_, e2⟩
    rw [e1]
    show keyIs (.inr x) (.str x t) = true
    exact kV_is (P := X.prog) (w := X.w) (k := .inr x) (u := .str x t) ⟨t, rfl⟩, fun _ => rfl⟩
  refine wpAny_in_of (show (noneKind X.prog X.w).is none .none = true from rfl) D.low mp ?_
  have nothing : findBy (noneKind X.prog X.w).is es none = none := by
    have q : (es.find? fun en => nkIs none en.key) = none := by
      rw [Array.find?_eq_none]
      intro en he hq
      obtain ⟨x, t, e1, _⟩ := D.lit.all en (Array.mem_toList_iff.mpr he)
      rw [e1] at hq
      cases hq
    show (es.find? fun en => nkIs none en.key).map (·.val) = none
    rw [q]
    rfl
  rw [nothing]
  exact ⟨.bl false, H, I.tok _, rfl, q⟩
def rInK (K : PySem.W.Frag) (d : Addr) : R2 := fun x y H Q => (∃ (z : Str) (r : Option Value), x = .str z ∧ y = .ref d ∧ PySem.W.nsIn K d z = some r ∧ Q (.bl r.isSome) H) ∨ (x = .non ∧ y = .ref d ∧ Q (.bl false) H)
theorem op_inK {X : Cx} {w : World} {d : Addr} {es : Array DictEntry} {n : Nat} (hK : X.K = K) (hw : X.w = w) (D : KDict K w d es n) : OpR X (compareOp .In) (rInK K d) := by
  subst hK
  subst hw
  exact OpR.or (op_in_kd D) (kd_none D)
theorem ix_K {X : Cx} {w : World} (hK : X.K = K) (hw : X.w = w) : IxR X (rIxD K w) := by
  subst hK
  subst hw
  exact ix_kdict
end
def inTab (tab : List (Str × PyData)) : PyData → Option PyData
  | .str z => some (.bool (tabAt tab z).isSome)
  | .none => some (.bool false)
  | _ => none
def getTab (tab : List (Str × PyData)) : PyData → Option PyData
  | .str z => tabAt tab z
  | _ => none
section
variable {ι : Type} {X : ι → Cx} {K : PySem.W.Frag} {N : List Str} {k : Nat} {M : List Nat} {a b c e tg : Expr} {ta tb tc te : TE} {ma mb mc me : En → Option PyData} {pos : Pos}
theorem d_inK {w : World} {d : Addr} {tab : List (Str × PyData)} (F : Fam X K N k) (kd : KDt K w d tab) (ha : MD X K M a ta ma) (hp : ∀ i, PE (X i) b (tC (.ref d))) (hw : ∀ i, (X i).w = w := by exact fun _ => rfl) (hm : behindInMarks .In b = false := by first | exact nomark _ | rfl) :
    MD X K M (.Compare a [.In] [b] pos) (tOp (rInK K d) ta (tC (.ref d))) (mUn (inTab tab) ma) := by
  obtain ⟨es, n, D, en⟩ := kd
  refine ⟨fun i => pe_cmpR (op_inK (F.hK i) (hw i) D) (ha.pe i) (hp i) hm, fun H0 O0 O σ H env r s hmm Q q => ?_⟩
  obtain ⟨d1, h1, h2⟩ := bind1 hmm
  refine ha.sd H0 O0 O σ H env d1 s h1 _ fun v H1 e1 hv => ?_
  show rInK K d v (.ref d) H1 Q
  cases d1 with
  | str z =>
    have ev : v = .str z := by
      cases hv
      rfl
    subst ev
    cases h2
    cases hz : tabAt tab z with
    | none =>
      rw [hz] at q
      exact .inl ⟨z, none, rfl, rfl, ns_none D.at_ en hz, q _ H1 e1 (.bl _)⟩
    | some p =>
      rw [hz] at q
      obtain ⟨u, v, n1, _, _⟩ := ns_some D.at_ en hz
      exact .inl ⟨z, some u, rfl, rfl, n1, q _ H1 e1 (.bl _)⟩
  | none =>
    have ev : v = .non := by
      cases hv
      rfl
    subst ev
    cases h2
    exact .inr ⟨rfl, rfl, q _ H1 e1 (.bl _)⟩
  | _ => cases h2
theorem d_getK {w : World} {d : Addr} {tab : List (Str × PyData)} (F : Fam X K N k) (kd : KDt K w d tab) (ha : MD X K M a ta ma) (hp : ∀ i, PE (X i) b (tC (.ref d))) (hw : ∀ i, (X i).w = w := by exact fun _ => rfl) (hx : PlainIx a := by exact fun _ _ => rfl) :
    MD X K M (.Subscript b a pos) (tOp (rIxD K w) (tC (.ref d)) ta) (mUn (getTab tab) ma) := by
  obtain ⟨es, n, D, en⟩ := kd
  refine ⟨fun i => pe_ix (ix_K (F.hK i) (hw i)) (hp i) (ha.pe i) hx, fun H0 O0 O σ H env r s hmm Q q => ?_⟩
  obtain ⟨d1, h1, h2⟩ := bind1 hmm
  show ta σ H fun y H2 => rIxD K w (.ref d) y H2 Q
  refine ha.sd H0 O0 O σ H env d1 s h1 _ fun v H1 e1 hv => ?_
  cases d1 with
  | str z =>
    have ev : v = .str z := by
      cases hv
      rfl
    subst ev
    obtain ⟨u, v, n1, n2, n3⟩ := ns_some D.at_ en (show tabAt tab z = some r from h2)
    exact ⟨d, z, v, rfl, rfl, ⟨es, n, u, D.at_, D.lit, n1, n2⟩, q _ H1 e1 (n3 _)⟩
  | _ => cases h2
/-! ### min of a list, count -/
def leastI : List Int → Int
  | [] => 0
  | [n] => n
  | n :: m :: r => min n (leastI (m :: r))
theorem leastI_ok : ∀ {ns : List Int}, ns ≠ [] → leastI ns ∈ ns ∧ ∀ y ∈ ns, leastI ns ≤ y
  | [], h => absurd rfl h
  | [n], _ => ⟨List.mem_cons_self, fun y hy => by rw [List.mem_singleton.mp hy]; exact Int.le_refl _⟩
  | n :: m :: r, _ => by
    have ih := leastI_ok (ns := m :: r) (by simp)
    show min n (leastI (m :: r)) ∈ _ ∧ ∀ y ∈ _, min n (leastI (m :: r)) ≤ y
    by_cases z : n ≤ leastI (m :: r)
    · rw [Int.min_eq_left z]
      refine ⟨List.mem_cons_self, fun y hy => ?_⟩
      cases hy with
      | head => exact Int.le_refl _
      | tail _ hy => exact Int.le_trans z (ih.2 y hy)
    · rw [Int.min_eq_right (by omega)]
      refine ⟨List.mem_cons_of_mem _ ih.1, fun y hy => ?_⟩
      cases hy with
      | head => omega
      | tail _ hy => exact ih.2 y hy
def bMinL : List PyData → Option PyData
  | [.list ds] => (intsOf ds).bind fun ns => if ns ≠ [] then some (.int (leastI ns)) else none
  | _ => none
theorem cr_minL {X : Cx} (hK : X.K = K) (calm : X.calm = true) : CallR X (.builtin "min") (rMin K) := by
  subst hK
  exact cr_min calm
theorem crd_minL : CrD K (rMin K) bMinL := fun H O vs ds d ht h hf Q q => by
  unfold bMinL at hf
  split at hf
  · obtain ⟨v, rfl, h1⟩ := dq1 h
    obtain ⟨l, xs, rfl, s1, a1⟩ := h1.list
    obtain ⟨ns, g1, g2⟩ := bind1 hf
    obtain ⟨ne, rfl⟩ := ite_some g2
    have := intsOf_some g1
    subst this
    have := dpAll_ints a1
    subst this
    have lo := leastI_ok ne
    refine ⟨l, ns, rfl, s1, List.length_pos_iff.mpr ne, fun m hm hle => ?_⟩
    have e : m = leastI ns := Int.le_antisymm (hle _ lo.1) (lo.2 m hm)
    rw [e]
    exact q _ H (Ex.refl H) (.int _)
  · cases hf
def mCount (ma mb : En → Option PyData) : En → Option PyData := fun env => (ma env).bind fun x => (mb env).bind fun y => match x, y with
  | .str x, .str y => some (.int (Txt.count x y))
  | _, _ => none
theorem d_count {p1 : Pos} (ha : MD X K M a ta ma) (hb : MD X K M b tb mb) (hs : ∀ i, starEach [b] (X i).env = [(false, eval b (X i).env)] := by exact fun _ => rfl) (hbase : ∀ i, attributeBase a "count" (X i).env (eval a (X i).env) = eval a (X i).env := by exact fun _ => rfl) (hline : (p1.endLine == pos.line) = true := by rfl) :
    MD X K M (.Call (.Attribute a "count" p1) [b] [] pos) (tM1 (fun x xs H Q => ∃ a b, x = .str a ∧ xs = [.str b] ∧ Q (.int (Txt.count a b)) H) ta tb) (mCount ma mb) := ⟨fun i => pe_m1 PySem.F.slot_str_count PySem.F.type_str_count mt_count (ha.pe i) (hb.pe i) (hs i) (hbase i) hline, fun H0 O0 O σ H env d s hmm Q q => by
  obtain ⟨x, y, h1, h2, h3⟩ := bind2 hmm
  refine ha.sd H0 O0 O σ H env x s h1 _ fun v H1 e1 hv => ?_
  cases hv with
  | str x =>
    refine ⟨⟨_, rfl⟩, hb.sd H0 O0 O σ H1 env y (s.ex e1) h2 _ fun w H2 e2 hw => ?_⟩
    cases hw with
    | str y =>
      cases h3
      exact ⟨x, y, rfl, rfl, q _ _ (e1.trans e2) (.int _)⟩
    | _ => cases h3
  | _ => cases h3⟩
/-! ### while -/
def whileD (mt : En → Option Bool) (body : En → Option Fl) : Nat → En → Option Fl
  | 0, _ => none
  | n + 1, env => (mt env).bind fun b => if b = true then (body env).bind fun f => match f with
      | .nx e => whileD mt body n e
      | .ct e => whileD mt body n e
      | .bk e => some (.nx e)
      | .rt r => some (.rt r)
    else some (.nx env)
theorem s_while (fuel : Nat) {body : List Stmt} {t : TT} {mt : En → Option Bool} {tb : TS} {m : En → Option Fl} (hp : ∀ i, PassesOwn (model (X i).prog (X i).w) (X i).A (X i).env (X i).xe) (hc : MT X K M c t mt) (hb : MSs X K M body tb m) :
    MS X K M (.While c body [] pos) (tWhile t tb) (whileD mt m fuel) := ⟨fun i => ps_while (hp i) (hc.pt i) (hb.ps i), fun H0 O0 O σ H env fl D s hm q => by
  refine ⟨fun n σ' H' => ∃ O' env', Sl K M H0 O0 O' σ' H' env' ∧ Ex (cut H O) (cut H' O') ∧ whileD mt m n env' = some fl, ⟨fuel, O, env, s, Ex.refl _, hm⟩, fun n σ' H' w => ?_⟩
  obtain ⟨O', env', s', x', l'⟩ := w
  cases n with
  | zero => cases l'
  | succ n =>
    obtain ⟨b, g1, g2⟩ := bind1 (show ((mt env').bind _) = some fl from l')
    refine hc.sd H0 O0 O' σ' H' env' b s' g1 _ fun H1 e1 => ?_
    have xx : Ex (cut H O) (cut H1 O') := x'.trans (cut_mono e1)
    cases b with
    | false =>
      rw [if_neg (show ¬ false = true from Bool.false_ne_true)] at g2 ⊢
      cases g2
      exact q σ' H1 O' (s'.ex e1) xx
    | true =>
      rw [if_pos rfl] at g2 ⊢
      obtain ⟨f, z3, z4⟩ := bind1 g2
      refine ⟨fun σ2 H2 => ∃ O2 env2, Sl K M H0 O0 O2 σ2 H2 env2 ∧ Ex (cut H O) (cut H2 O2) ∧ whileD mt m n env2 = some fl, fun σ2 H2 p => ⟨n, Nat.lt_succ_self n, p⟩, ?_⟩
      refine hb.sd H0 O0 O' σ' H1 env' f _ (s'.ex e1) z3 ?_
      cases f with
      | nx e => exact fun σ3 H3 O3 s3 x3 => ⟨O3, e, s3, xx.trans x3, z4⟩
      | ct e => exact fun σ3 H3 O3 s3 x3 => ⟨O3, e, s3, xx.trans x3, z4⟩
      | bk e =>
        cases z4
        exact fun σ3 H3 O3 s3 x3 => q σ3 H3 O3 s3 (xx.trans x3)
      | rt r =>
        cases z4
        exact q⟩
/-! ### x.pop() into a target; x.extend(a new list) -/
def mPop (i : Nat) (bind : PyData → En → Option En) : En → Option Fl := fun env => (mVar i env).bind fun l => match l with
  | .list ds => (ds[ds.length - 1]?).bind fun d => (bind d (env.set i (some (.list ds.dropLast)))).bind fun e => some (.nx e)
  | _ => none
theorem dpAll_last {H : Hp} : ∀ {vs : List V} {ds : List PyData}, DpAll K H vs ds → DpAll K H vs.dropLast ds.dropLast
  | _, _, .nil => .nil
  | _, _, .cons _ .nil => .nil
  | _, _, .cons h (.cons h2 r) => .cons h (dpAll_last (.cons h2 r))
theorem s_pop (F : Fam X K N k) (i : Nat) {x : Str} {p1 p2 p3 : Pos} {g : TG} {bind : PyData → En → Option En} (hg : MG X K M tg g bind)
    (hp : ∀ j, PE (X j) (.Call (.Attribute (.Name x p1) "pop" p2) [] [] p3) (tBM0 (X j).K "list" rPop (tVar i))) (hi : i ∈ M := by decide) (hd : dictS M i = 0 := by decide)
    (hs : ∀ j, swapsWithSole [tg] (.Call (.Attribute (.Name x p1) "pop" p2) [] [] p3) pos.line (X j).env = pure false := by exact fun _ => rfl) (hw : ∀ j, swappedStores [tg] (.Call (.Attribute (.Name x p1) "pop" p2) [] [] p3) (X j).env = pure none := by exact fun _ => rfl)
    (h1 : ∀ j, (assignEach [tg] (X j).env).map (·.2) = [assign tg (X j).env] := by exact fun _ => rfl) :
    MS X K M (.Assign [tg] (.Call (.Attribute (.Name x p1) "pop" p2) [] [] p3) pos) (tAsg (tBM0 K "list" rPop (tVar i)) g) (mPop i bind) := ⟨fun j => ps_asg (by
    have := hp j
    rw [F.hK j] at this
    exact this) (hg.pg j) (hs j) (hw j) (h1 j), fun H0 O0 O σ H env fl D s hm q => by
  obtain ⟨d1, g1, g2⟩ := bind1 hm
  obtain ⟨l, xs, ds, w1, w2, w3, rfl, w5, w6⟩ := s.lst (join_some g1) hi hd
  obtain ⟨d, g3, g4⟩ := bind1 (show ((ds[ds.length - 1]?).bind _) = some fl from g2)
  obtain ⟨env', g5, g6⟩ := bind1 g4
  cases g6
  obtain ⟨v, v1, v2⟩ := dpAll_get' w6 g3
  refine ⟨_, w1, .inl ⟨rfl, xs, .inl (.inl w5)⟩, l, xs, v, rfl, rfl, w5, by rw [dpAll_len w6]; exact v1, ?_⟩
  have s2 := s.write hi hd (join_some g1) w1 w2 w3 (dpAll_last w6)
  refine hg.sd H0 O0 O σ _ _ d env' v s2 (by rw [cut_write w2]; exact v2) g5 _ fun σ' s' => q σ' _ O s' ?_
  rw [cut_write w2]
  exact Ex.refl _⟩
def mExt (i : Nat) (m : En → Option PyData) : En → Option Fl := fun env => (mVar i env).bind fun l => (m env).bind fun d => match l, d with
  | .list ds, .list es => if ds.length + es.length ≤ sizeLine then some (.nx (env.set i (some (.list (ds ++ es))))) else none
  | _, _ => none
theorem s_ext (F : Fam X K N k) (i : Nat) {x : Str} {p1 p2 p3 : Pos} (h : MF X K M e te me)
    (hp : ∀ j, PS (X j) (.Expr (.Call (.Attribute (.Name x p1) "extend" p2) [e] [] p3) pos) (tDrop (tBM (X j).K "list" rExtend (tVar i) (tCons te tNil)))) (hi : i ∈ M := by decide) (hd : dictS M i = 0 := by decide) :
    MS X K M (.Expr (.Call (.Attribute (.Name x p1) "extend" p2) [e] [] p3) pos) (tDrop (tBM K "list" rExtend (tVar i) (tCons te tNil))) (mExt i me) := ⟨fun j => by
    have := hp j
    rw [F.hK j] at this
    exact this, fun H0 O0 O σ H env fl D s hm q => by
    obtain ⟨d1, d2, g1, g2, g3⟩ := bind2 hm
    obtain ⟨l, xs, ds, h1, h2, h3, rfl, h5, h6⟩ := s.lst (join_some g1) hi hd
    refine ⟨_, h1, .inl ⟨rfl, xs, .inl (.inl h5)⟩, h.sd H0 O0 O σ H env d2 s g2 _ fun p ys es H1 hp e1 hde hl ha => ?_⟩
    subst hde
    obtain ⟨hz, e⟩ := ite_some (show (if ds.length + es.length ≤ sizeLine then some (Fl.nx (env.set i (some (.list (ds ++ es))))) else none) = some fl from g3)
    subst e
    have s1 := s.ex e1
    refine ⟨l, p, xs, ys, rfl, rfl, e1 _ _ h5, hl, by rw [dpAll_len h6, dpAll_len ha]; exact hz, ?_⟩
    have np : p ∉ O := s.new hp
    have less : Ex (cut H1 (p :: O)) (cut H1 O) := cut_less fun a h => List.mem_cons_of_mem _ h
    refine q σ _ O (s1.write hi hd (join_some g1) h1 h2 h3 (dpAll_app (dpAll_ex (cut_mono e1) h6) (dpAll_ex less ha))) ?_
    rw [cut_write h2]
    exact cut_mono e1⟩
end

end Rv
namespace Rv
open PySem L2 PySem.Spec PyProof.Rows
/-! The data layer, part J: comprehensions as new lists; dicts by texts; replace, where a token is out. -/
section
variable {ι : Type} {X : ι → Cx} {K : PySem.W.Frag} {N : List Str} {k : Nat} {M : List Nat} {a b c e tg : Expr} {ta tb tc te : TE} {ma mb mc me : En → Option PyData} {pos : Pos}
theorem sndF_lc {vs : List Nat} {wi : TI} {mi : En → Option (List PyData)} {g : TG} {bind : PyData → En → Option En} {tt : TT} {mt : En → Option Bool}
    (hi : ∀ H0 O0 O σ H env ds, Sl K M H0 O0 O σ H env → mi env = some ds → ∀ R : It → Hp → Prop, (∀ J H2, Ex H H2 → Wk K O J H2 ds true → R J H2) → wi σ H R)
    (hg : SndG K M g bind) (hk : ∀ x σ H (Q : L2.St → Hp → Prop), g x (wipe σ vs) H Q → g x (wipe σ vs) H fun σ2 H2 => wipe σ2 vs = wipe σ vs ∧ Q σ2 H2) (ht : SndT K M tt mt) (he : Snd K M te me) : SndF K M (tLc wi g tt te vs) (mLc vs mi bind mt me) := fun H0 O0 O σ H env d s hm Q q => by
  obtain ⟨ds, h1, h2⟩ := bind1 hm
  obtain ⟨r, h3, h4⟩ := bind1 h2
  obtain ⟨hz, e⟩ := ite_some h4
  subst e
  refine hi H0 O0 O σ H env ds s h1 _ fun J H1 e1 wk D hD => ?_
  have s1 := s.ex e1
  have nD : D ∉ O := s1.new hD
  -- the slots over a heap with the new list, owned
  have up : ∀ H', Ex (cut H1 O) (cut H' (D :: O)) → (∀ l ∈ O, ∀ o, H1 l = some o → H' l = some o) → (∃ acc, H' D = some (.lst acc)) → Sl K M H0 O0 (D :: O) (wipe σ vs) H' (wipeD env vs) := fun H' x1 x2 x3 => by
    have xx : Ex H1 H' := fun a o q => by
      by_cases z : a ∈ O
      · exact x2 a z o q
      · exact cut_ex _ _ (x1 a o (by rw [cut_out z]; exact q))
    have s2 := (Sl.wiped (s1.ex xx) vs)
    refine ⟨s2.ext, fun l h => ?_, fun l h => List.mem_cons_of_mem _ (s2.sub l h), fun l h => ?_, fun i d' h n => ?_, fun i d' h n => ?_, s2.inj, s2.len⟩
    · rcases List.mem_cons.mp h with z | z
      · subst z
        exact .inr (s1.ext.free hD)
      · exact s2.fresh l z
    · rcases List.mem_cons.mp h with z | z
      · subst z
        obtain ⟨acc, q⟩ := x3
        exact ⟨_, q⟩
      · exact s2.there l z
    · obtain ⟨v, g1, g2⟩ := (Sl.wiped s1 vs).sh i d' h n
      exact ⟨v, g1, dp_ex x1 g2⟩
    · obtain ⟨l, o, g1, g2, g3, g5, g6⟩ := (Sl.wiped s1 vs).ow i d' h n
      exact ⟨l, o, g1, List.mem_cons_of_mem _ g2, g3, x2 l g2 _ g5, g6.ex x1⟩
  refine ⟨fun i m H' => i ≤ ds.length ∧ m = ds.length - i ∧ Ex (cut H1 O) (cut H' (D :: O)) ∧ (∀ l ∈ O, ∀ o, H1 l = some o → H' l = some o) ∧ ∃ acc rs rest, H' D = some (.lst acc) ∧ DpAll K (cut H' (D :: O)) acc rs ∧ lcD bind mt me (wipeD env vs) (ds.drop i) = some rest ∧ rs ++ rest = r,
    ⟨ds.length, Nat.zero_le _, rfl, ?_, ?_, [], [], r, upd_same, .nil, h3, rfl⟩, fun i m H' w => ?_⟩
  · rw [cut_cons hD]
    exact Ex.refl _
  · intro l hl o ho
    rw [upd_ne fun (z : l = D) => by rw [z, hD] at ho; cases ho]
    exact ho
  · obtain ⟨hil, rfl, x1, x2, acc, rs, rest, y1, y2, y3, y4⟩ := w
    have s3 := up H' x1 x2 ⟨acc, y1⟩
    have xx : Ex H1 H' := fun a o q => by
      by_cases z : a ∈ O
      · exact x2 a z o q
      · exact cut_ex _ _ (x1 a o (by rw [cut_out z]; exact q))
    have hw := wk H' (D :: O) x1 s3.there (fun _ l hl o ho => x2 l hl o ho) i
    by_cases hlt : i < ds.length
    · have hdi : ds[i]? = some ds[i] := List.getElem?_eq_getElem hlt
      obtain ⟨go, yl⟩ := hw.1 _ hdi
      rw [List.drop_eq_getElem_cons hlt] at y3
      obtain ⟨env1, b, z1, z2, z3⟩ := lcD_cons y3
      refine .inr ⟨go, fun H2 => i + 1 ≤ ds.length ∧ Ex (cut H1 O) (cut H2 (D :: O)) ∧ (∀ l ∈ O, ∀ o, H1 l = some o → H2 l = some o) ∧ ∃ acc rs rest, H2 D = some (.lst acc) ∧ DpAll K (cut H2 (D :: O)) acc rs ∧ lcD bind mt me (wipeD env vs) (ds.drop (i + 1)) = some rest ∧ rs ++ rest = r, fun H2 p => ⟨ds.length - (i + 1), by omega, p.1, rfl, p.2⟩, fun x H2 hy => ?_⟩
      obtain ⟨e2, hx⟩ := yl x H2 hy
      refine hk x σ H2 _ ?_
      refine hg H0 O0 (D :: O) (wipe σ vs) H2 (wipeD env vs) ds[i] env1 x (s3.ex e2) hx z1 _ fun σ2 s4 => ?_
      refine ht H0 O0 (D :: O) σ2 H2 env1 b s4 z2 _ fun H3 e3 => ?_
      have s5 := s4.ex e3
      have e23 := e2.trans e3
      have accLen : acc.length < sizeLine ∨ b = false := by
        rcases z3 with ⟨_, x', r', _, z5, z6⟩ | ⟨z4, _⟩
        · left
          have l1 := dpAll_len y2
          have l2 : (rs ++ rest).length = r.length := by rw [y4]
          rw [List.length_append, z6, List.length_cons] at l2
          omega
        · exact .inr z4
      rcases z3 with ⟨z4, x', r', z5, z6, z7⟩ | ⟨z4, z5⟩
      · subst z4
        rw [if_pos rfl]
        refine he H0 O0 (D :: O) σ2 H3 env1 x' s5 z5 _ fun y H4 e4 hy4 => ?_
        have e24 := e23.trans e4
        have hD4 : H4 D = some (.lst acc) := e24 _ _ y1
        have ec : cut (upd H4 D (.lst (acc ++ [y]))) (D :: O) = cut H4 (D :: O) := cut_write List.mem_cons_self
        refine ⟨acc, hD4, accLen.resolve_right (fun z => by cases z), by omega, ?_, fun l hl o ho => ?_, acc ++ [y], rs ++ [x'], r', upd_same, ?_, z6, by rw [List.append_assoc]; rw [z7] at y4; exact y4⟩
        · rw [ec]
          exact x1.trans (cut_mono e24)
        · rw [upd_ne fun (z : l = D) => nD (by rw [← z]; exact hl)]
          exact e24 _ _ (x2 l hl o ho)
        · rw [ec]
          exact dpAll_app (dpAll_ex (cut_mono e24) y2) (.cons hy4 .nil)
      · subst z4
        rw [if_neg (show ¬ false = true from Bool.false_ne_true)]
        exact ⟨by omega, x1.trans (cut_mono e23), fun l hl o ho => e23 _ _ (x2 l hl o ho), acc, rs, rest, e23 _ _ y1, dpAll_ex (cut_mono e23) y2, z5, y4⟩
    · have hle : ds.length ≤ i := by omega
      rw [List.drop_of_length_le hle] at y3
      cases y3
      rw [List.append_nil] at y4
      subst y4
      exact .inl ⟨hw.2 (by omega), q D acc rs H' (e1.free hD) (e1.trans xx) rfl y1 y2⟩
theorem f_lc (F : Fam X K N k) {iter : Expr} {ifs : List Expr} {scope sc : Scope} (own : List (Str × Nat)) {wi : TI} {mi : En → Option (List PyData)} {g : TG} {bind : PyData → En → Option En} {tt : TT} {mt : En → Option Bool}
    (hi : MI X K M tg iter wi mi true) (hsc : ∀ i, (X i).env.scope = sc) (ok : BlkOk N sc scope own) (hg : MG (blkF X scope) K M tg g bind) (hk : GK (own.map (·.2)) g) (ht : MTs (blkF X scope) K M ifs tt mt) (he : MD (blkF X scope) K M e te me) (hs : ∀ i x, foldedSetIterable iter (X i).env x = pure x := by exact fun _ _ => rfl) :
    MF X K M (.ListComp e [⟨tg, iter, ifs, 0⟩] scope pos) (tLc wi g tt te (own.map (·.2))) (mLc (own.map (·.2)) mi bind mt me) :=
  ⟨(d_lc (pos := pos) F own hi hsc ok hg hk ht he hs).pe, sndF_lc hi.sd hg.sd (fun x σ H Q q => by
      have z := hk x (wipe σ (own.map (·.2))) H Q q
      rw [wipe_wipe] at z
      exact z) ht.sd he.sd⟩
/-! ### dicts by texts -/
def hasK (es : List (PyData × PyData)) (key : Key) : Bool := es.any fun e => decide (unKey e.1 = some key)
def putDK (es : List (PyData × PyData)) (key : Key) (d : PyData) : List (PyData × PyData) :=
  if hasK es key = true then es.map (fun e => if unKey e.1 = some key then (e.1, d) else e) else es ++ [(keyD key, d)]
def valK (es : List (PyData × PyData)) (key : Key) : Option PyData := (es.find? fun e => decide (unKey e.1 = some key)).map Prod.snd
theorem kvk_len {H : Hp} : ∀ {kvs : List (Key × V)} {es : List (PyData × PyData)}, KvK K H kvs es → kvs.length = es.length
  | _, _, .nil => rfl
  | _, _, .cons _ r => by
    rw [List.length_cons, List.length_cons, kvk_len r]
theorem unKey_iff {k1 key : Key} : unKey (keyD k1) = some key ↔ k1 = key := by
  rw [unKey_of]
  exact ⟨fun q => Option.some.inj q, fun q => by rw [q]⟩
theorem kvk_has {H : Hp} {key : Key} : ∀ {kvs : List (Key × V)} {es : List (PyData × PyData)}, KvK K H kvs es → (kvs.any fun kv => decide (kv.1 = key)) = hasK es key
  | _, _, .nil => rfl
  | _, _, .cons (key := k1) _ r => by
    unfold hasK
    rw [List.any_cons, List.any_cons, kvk_has r]
    have e : decide (k1 = key) = decide (unKey (keyD k1) = some key) := decide_eq_decide.mpr unKey_iff.symm
    show (decide (k1 = key) || _) = (decide (unKey (keyD k1) = some key) || _)
    rw [e]
    rfl
theorem kvk_repl {H : Hp} {key : Key} {v : V} {d : PyData} (hv : Dp K H v d) : ∀ {kvs : List (Key × V)} {es : List (PyData × PyData)}, KvK K H kvs es → KvK K H (kvs.map fun kv => if kv.1 = key then (kv.1, v) else kv) (es.map fun e => if unKey e.1 = some key then (e.1, d) else e)
  | _, _, .nil => .nil
  | _, _, .cons (key := k1) h r => by
    have ih := kvk_repl (key := key) hv r
    show KvK K H ((if k1 = key then _ else _) :: _) ((if unKey (keyD k1) = some key then _ else _) :: _)
    by_cases z : k1 = key
    · rw [if_pos z, if_pos (unKey_iff.mpr z)]
      exact .cons hv ih
    · rw [if_neg z, if_neg fun q => z (unKey_iff.mp q)]
      exact .cons h ih
theorem kvk_app {H : Hp} {key : Key} {v : V} {d : PyData} (hv : Dp K H v d) : ∀ {kvs : List (Key × V)} {es : List (PyData × PyData)}, KvK K H kvs es → KvK K H (kvs ++ [(key, v)]) (es ++ [(keyD key, d)])
  | _, _, .nil => .cons hv .nil
  | _, _, .cons h r => .cons h (kvk_app hv r)
theorem kvk_put {H : Hp} {key : Key} {v : V} {d : PyData} {kvs : List (Key × V)} {es : List (PyData × PyData)} (hv : Dp K H v d) (h : KvK K H kvs es) : KvK K H (putK kvs key v) (putDK es key d) := by
  unfold putK putDK
  rw [kvk_has h]
  by_cases z : hasK es key = true
  · rw [if_pos z, if_pos z]
    exact kvk_repl hv h
  · rw [if_neg z, if_neg z]
    exact kvk_app hv h
theorem kvk_val {H : Hp} {key : Key} : ∀ {kvs : List (Key × V)} {es : List (PyData × PyData)}, KvK K H kvs es → (valK es key = none → valV kvs key = none) ∧ ∀ d, valK es key = some d → ∃ v, valV kvs key = some v ∧ Dp K H v d
  | _, _, .nil => ⟨fun _ => rfl, fun d h => nomatch h⟩
  | _, _, @KvK.cons _ _ k1 v d kvs es h r => by
    have ih := kvk_val (key := key) r
    by_cases z : k1 = key
    · have e1 : valK ((keyD k1, d) :: es) key = some d := by
        unfold valK
        rw [List.find?_cons]
        have y : decide (unKey (keyD k1) = some key) = true := decide_eq_true (unKey_iff.mpr z)
        show (match decide (unKey (keyD k1) = some key) with | true => some (keyD k1, d) | false => _).map Prod.snd = _
        rw [y]
        rfl
      rw [e1, valV_pos z]
      refine ⟨fun w => (nomatch w), fun p w => ?_⟩
      cases w
      exact ⟨v, rfl, h⟩
    · have e1 : valK ((keyD k1, d) :: es) key = valK es key := by
        unfold valK
        rw [List.find?_cons]
        have y : decide (unKey (keyD k1) = some key) = false := decide_eq_false fun q => z (unKey_iff.mp q)
        show (match decide (unKey (keyD k1) = some key) with | true => some (keyD k1, d) | false => es.find? fun e => decide (unKey e.1 = some key)).map Prod.snd = _
        rw [y]
      rw [e1, valV_neg z]
      exact ih
theorem valV_has {kvs : List (Key × V)} {es : List (PyData × PyData)} {H : Hp} {key : Key} (h : KvK K H kvs es) : (valV kvs key).isSome = hasK es key := by
  rw [← kvk_has h, valV_any]
/-- an address that is owned besides -/
theorem Sl.more {H0 H : Hp} {O0 O : List Addr} {σ : L2.St} {env : En} (s : Sl K M H0 O0 O σ H env) {p : Addr} {o : HO} (hp : H p = none) : Sl K M H0 O0 (p :: O) σ (upd H p o) env := by
  have xx : Ex H (upd H p o) := Ex.new hp
  have s2 := s.ex xx
  have ec : cut (upd H p o) (p :: O) = cut H O := cut_cons hp
  refine ⟨s2.ext, fun l h => ?_, fun l h => List.mem_cons_of_mem _ (s2.sub l h), fun l h => ?_, fun i d h n => ?_, fun i d h n => ?_, s2.inj, s2.len⟩
  · rcases List.mem_cons.mp h with z | z
    · subst z
      exact .inr (s.ext.free hp)
    · exact s2.fresh l z
  · rcases List.mem_cons.mp h with z | z
    · subst z
      exact ⟨_, upd_same⟩
    · exact s2.there l z
  · obtain ⟨v, g1, g2⟩ := s.sh i d h n
    exact ⟨v, g1, by rw [ec]; exact g2⟩
  · obtain ⟨l, o', g1, g2, g3, g5, g6⟩ := s.ow i d h n
    exact ⟨l, o', g1, List.mem_cons_of_mem _ g2, g3, xx _ _ g5, by rw [ec]; exact g6⟩
inductive PrD (K : PySem.W.Frag) (H : Hp) : List (V × V) → List (Str × PyData) → Prop
  | nil : PrD K H [] []
  | cons {x : Str} {v : V} {d : PyData} {ps : List (V × V)} {r : List (Str × PyData)} : Dp K H v d → PrD K H ps r → PrD K H ((.str x, v) :: ps) ((x, d) :: r)
structure MP {ι : Type} (X : ι → Cx) (K : PySem.W.Frag) (M : List Nat) (pos : Pos) (keys : List (Option Expr)) (values : List Expr) (trs : List (TE × TE)) (m : En → Option (List (Str × PyData))) : Prop where
  pp : ∀ i, PPs (X i) pos keys values trs
  sd : ∀ H0 O0 O σ H env r, Sl K M H0 O0 O σ H env → m env = some r → ∀ Q : List (V × V) → Hp → Prop, (∀ ps H2, Ex H H2 → PrD K (cut H2 O) ps r → Q ps H2) → tPairs trs σ H Q
def mP0 : En → Option (List (Str × PyData)) := fun _ => some []
def mP1 (x : Str) (m : En → Option PyData) (r : En → Option (List (Str × PyData))) : En → Option (List (Str × PyData)) := fun env => (m env).bind fun d => (r env).bind fun ps => some ((x, d) :: ps)
theorem p_nil : MP X K M pos [] [] [] mP0 := ⟨fun _ => pps_nil, fun H0 O0 O σ H env r s hm Q q => by
  cases hm
  exact q [] H (Ex.refl H) .nil⟩
theorem prd_ex {H H' : Hp} (x : Ex H H') : ∀ {ps : List (V × V)} {r : List (Str × PyData)}, PrD K H ps r → PrD K H' ps r
  | _, _, .nil => .nil
  | _, _, .cons h r => .cons (dp_ex x h) (prd_ex x r)
theorem p_cons {x : Str} {j : Nat} {p1 : Pos} {ks : List (Option Expr)} {vs : List Expr} {trs : List (TE × TE)} {mr : En → Option (List (Str × PyData))} (h : MD X K M e te me) (hr : MP X K M pos ks vs trs mr) :
    MP X K M pos (some (.Constant (.str x) j p1) :: ks) (e :: vs) ((tC (.str x), te) :: trs) (mP1 x me mr) := ⟨fun i => pps_cons pe_str (h.pe i) (hr.pp i), fun H0 O0 O σ H env r s hm Q q => by
  obtain ⟨d, ps, h1, h2, h3⟩ := bind2 hm
  cases h3
  show te σ H fun y H2 => tPairs trs σ H2 fun ps H3 => Q ((.str x, y) :: ps) H3
  refine h.sd H0 O0 O σ H env d s h1 _ fun v H1 e1 hv => ?_
  exact hr.sd H0 O0 O σ H1 env ps (s.ex e1) h2 _ fun ps2 H2 e2 hps => q _ H2 (e1.trans e2) (.cons (dp_ex (cut_mono e2) hv) hps)⟩
def mergeD (r : List (Str × PyData)) : List (PyData × PyData) := r.foldl (fun es p => putDK es (.inr p.1) p.2) []
theorem kvk_merge {H : Hp} : ∀ {ps : List (V × V)} {r : List (Str × PyData)}, PrD K H ps r → ∃ kvs : List (Key × V), ps = kvs.map (fun kv => (kV kv.1, kv.2)) ∧ kvs.length = r.length ∧ ∀ (kv0 : List (Key × V)) (es0 : List (PyData × PyData)), KvK K H kv0 es0 → KvK K H (mergeK kv0 kvs) (r.foldl (fun es p => putDK es (.inr p.1) p.2) es0)
  | _, _, .nil => ⟨[], rfl, rfl, fun _ _ h => h⟩
  | _, _, @PrD.cons _ _ x v d ps r hv h => by
    obtain ⟨kvs, e1, e2, e3⟩ := kvk_merge h
    refine ⟨(.inr x, v) :: kvs, by rw [e1]; rfl, by rw [List.length_cons, List.length_cons, e2], fun kv0 es0 h0 => ?_⟩
    exact e3 _ _ (kvk_put hv h0)
def mDisp (i : Nat) (m : En → Option (List (Str × PyData))) : En → Option Fl := fun env => (m env).bind fun r => if r.length ≤ 15 then some (.nx (env.set i (some (.dict (mergeD r))))) else none
/-- x = {..}, keys written texts -/
theorem s_disp (F : Fam X K N k) (i : Nat) {x : Str} {pos' p1 : Pos} {ke : Expr} {ks : List (Option Expr)} {vs : List Expr} {trs : List (TE × TE)} {m : En → Option (List (Str × PyData))} (h : MP X K M p1 (some ke :: ks) vs trs m) (hall : (some ke :: ks).all (·.isSome) = true := by rfl) (hlen : (some ke :: ks).length = vs.length := by rfl) (h15 : (some ke :: ks).length ≤ 15 := by decide)
    (hi : i ∈ M := by decide) (hd : dictS M i = 2 := by decide) (hx : N[i]? = some x := by rfl) (hl : ∀ j, Loc (X j).env.scope x := by first | exact fun _ => Or.inl rfl | exact fun _ => Or.inr rfl) (hs : ∀ j, swapsWith (.Dict (some ke :: ks) vs p1) (some (.Name x pos')) pos.line (X j).env = pure false := by exact fun _ => rfl)
    (hf : ∀ j, (X j).fn x = true ∨ (X j).env.scope.names.lookup x = some .local := by first | exact fun _ => .inl rfl | exact fun _ => .inr rfl) : MS X K M (.Assign [.Name x pos'] (.Dict (some ke :: ks) vs p1) pos) (tAsg (tDisp trs) (gName i)) (mDisp i m) :=
  ⟨fun j => ps_set (by rw [F.hN j]; exact F.nd) (by rw [F.hN j]; exact hx) (hl j) (pe_disp (h.pp j) hall hlen (fun z => nomatch z) h15) (hs j) (hf j), fun H0 O0 O σ H env fl D s hm q => by
    obtain ⟨r, g1, g2⟩ := bind1 hm
    obtain ⟨small, rfl⟩ := ite_some g2
    intro p hp
    refine h.sd H0 O0 (p :: O) σ _ env r (s.more (o := .dK []) hp) g1 _ fun ps H2 e2 hps => ?_
    obtain ⟨kvs, e1, e3, e4⟩ := kvk_merge hps
    refine ⟨e2 _ _ upd_same, kvs, e1, by rw [e3]; exact small, ?_⟩
    have hx2 : Ex H (upd H2 p (.dK (mergeK [] kvs))) := fun b o hb => by
      have ne : b ≠ p := fun z => by
        rw [z, hp] at hb
        cases hb
      rw [upd_ne ne]
      exact e2 _ _ (by rw [upd_ne ne]; exact hb)
    have cw : cut (upd H2 p (.dK (mergeK [] kvs))) (p :: O) = cut H2 (p :: O) := cut_write List.mem_cons_self
    refine q _ _ (p :: O) (s.ownG (H' := upd H2 p (.dK (mergeK [] kvs))) hi hp hx2 upd_same (by
      rw [hd, cw]
      exact ⟨_, _, rfl, rfl, e4 [] [] .nil⟩)) ?_
    rw [cw]
    have ec : cut (upd H p (.dK [])) (p :: O) = cut H O := cut_cons hp
    rw [← ec]
    exact cut_mono e2⟩
/-- x[k] = v -/
def mPutK (i : Nat) (mk mv : En → Option PyData) : En → Option Fl := fun env => (mv env).bind fun d => (mVar i env).bind fun l => (mk env).bind fun a => match l with
  | .dict es => (unKey a).bind fun key => if es.length < sizeLine then some (.nx (env.set i (some (.dict (putDK es key d))))) else none
  | _ => none
theorem dp_key {H : Hp} {v : V} {d : PyData} {key : Key} (h : Dp K H v d) (e : unKey d = some key) : v = kV key := by
  have := unKey_some e
  subst this
  cases key with
  | inl i =>
    cases h
    rfl
  | inr x =>
    cases h
    rfl
theorem s_putK (F : Fam X K N k) (i : Nat) {x : Str} {p1 p4 : Pos} {value : Expr} {tv : TE} {mv : En → Option PyData} (hv : MD X K M value tv mv) (h : MD X K M e te me)
    (hi : i ∈ M := by decide) (hd : dictS M i = 2 := by decide) (hp : ∀ j, PE (X j) (.Name x p1) (tVar i) := by exact fun _ => pv _)
    (hs : ∀ j, swapsWith value (some (.Subscript (.Name x p1) e p4)) pos.line (X j).env = pure false := by exact fun _ => rfl) :
    MS X K M (.Assign [.Subscript (.Name x p1) e p4] value pos) (sDPut (tVar i) te tv) (mPutK i me mv) :=
  ⟨fun j => ps_dput (by have := F.u64 j; omega) (hp j) (h.pe j) (hv.pe j) (hs j), fun H0 O0 O σ H env fl D s hm q => by
    obtain ⟨d, g1, g2⟩ := bind1 hm
    obtain ⟨d1, d2, g3, g4, g5⟩ := bind2 g2
    obtain ⟨l, kvs, es, w1, w2, w3, rfl, w5, w6⟩ := s.dkt (join_some g3) hi hd
    obtain ⟨key, g6, g7⟩ := bind1 (show ((unKey d2).bind _) = some fl from g5)
    obtain ⟨hz, rfl⟩ := ite_some g7
    refine hv.sd H0 O0 O σ H env d s g1 _ fun v H1 e1 hvd => ⟨_, w1, h.sd H0 O0 O σ H1 env d2 (s.ex e1) g4 _ fun u H2 e2 hu => ?_⟩
    have e12 := e1.trans e2
    have := dp_key hu g6
    subst this
    refine ⟨l, _, rfl, DPut.k (e12 _ _ w5) (by rw [kvk_len w6]; exact hz), ?_⟩
    refine q σ _ O ((s.ex e12).writeG hi (join_some g3) w1 w2 w3 (by
      rw [hd]
      exact ⟨_, _, rfl, rfl, kvk_put (dp_ex (cut_mono e2) hvd) (kvk_ex (cut_mono e12) w6)⟩)) ?_
    rw [cut_write w2]
    exact cut_mono e12⟩
/-- k not in x, k in x: tests -/
def rInO (neg : Bool) : R2 := fun x y H Q => ∃ a o, y = .ref a ∧ DGet H a x o ∧ Q (.bl (o.isSome != neg)) H
theorem op_notInO {X : Cx} (hu : X.A.units + 1 < cLine) : OpR X (compareOp .NotIn) (rInO true) := fun pins st σ H x y v u Q inv rx ry h => by
  obtain ⟨a, o, rfl, g, q⟩ := h
  (obtain rfl : u = Value.ref a := ry)
  refine d_notIn hu inv g rx fun s' I' => ⟨.bl (!o.isSome), H, I', rfl, ?_⟩
  have e : (o.isSome != true) = !o.isSome := by cases o.isSome <;> rfl
  rw [e] at q
  exact q
def mInO (neg : Bool) (i : Nat) (ma : En → Option PyData) : En → Option Bool := fun env => (ma env).bind fun a => (mVar i env).bind fun l => match l with
  | .dict es => (unKey a).bind fun key => some (hasK es key != neg)
  | _ => none
theorem t_notInO (F : Fam X K N k) (i : Nat) {x : Str} {p1 : Pos} (ha : MD X K M a ta ma) (hi : i ∈ M := by decide) (hd : dictS M i = 2 := by decide) (hp : ∀ j, PE (X j) (.Name x p1) (tVar i) := by exact fun _ => pv _) (hm : behindInMarks .NotIn (.Name x p1) = false := by first | exact nomark _ | rfl) :
    MT X K M (.Compare a [.NotIn] [.Name x p1] pos) (tTest (tOp (rInO true) ta (tVar i))) (mInO true i ma) := ⟨fun j => pt_cmpR (op_notInO (by have := F.u64 j; omega)) (ha.pe j) (hp j) hm, fun H0 O0 O σ H env b s hmm Q q => by
  obtain ⟨d1, d2, g1, g2, g3⟩ := bind2 hmm
  obtain ⟨l, kvs, es, w1, w2, w3, rfl, w5, w6⟩ := s.dkt (join_some g2) hi hd
  obtain ⟨key, g4, g5⟩ := bind1 (show ((unKey d1).bind _) = some b from g3)
  cases g5
  refine ha.sd H0 O0 O σ H env d1 s g1 _ fun v H1 e1 hv => ⟨_, w1, l, valV kvs key, rfl, ?_, _, rfl, ?_⟩
  · have := dp_key hv g4
    subst this
    exact DGet.k (e1 _ _ w5)
  · rw [valV_has w6]
    exact q H1 e1⟩
/-- x[k] -/
def mGetO (i : Nat) (mb : En → Option PyData) : En → Option PyData := fun env => (mVar i env).bind fun l => (mb env).bind fun a => match l with
  | .dict es => (unKey a).bind fun key => valK es key
  | _ => none
theorem d_getO (F : Fam X K N k) (i : Nat) {x : Str} {p1 : Pos} (hb : MD X K M b tb mb) (hi : i ∈ M := by decide) (hd : dictS M i = 2 := by decide) (hp : ∀ j, PE (X j) (.Name x p1) (tVar i) := by exact fun _ => pv _) (hns : NoSl b := by exact fun _ _ => rfl) :
    MD X K M (.Subscript (.Name x p1) b pos) (tDGet (tVar i) tb) (mGetO i mb) := ⟨fun j => pe_dget (by have := F.u64 j; omega) (hp j) (hb.pe j) hns, fun H0 O0 O σ H env d s hmm Q q => by
  obtain ⟨d1, d2, g1, g2, g3⟩ := bind2 hmm
  obtain ⟨l, kvs, es, w1, w2, w3, rfl, w5, w6⟩ := s.dkt (join_some g1) hi hd
  obtain ⟨key, g4, g5⟩ := bind1 (show ((unKey d2).bind _) = some d from g3)
  refine ⟨_, w1, hb.sd H0 O0 O σ H env d2 s g2 _ fun v H1 e1 hv => ?_⟩
  have := dp_key hv g4
  subst this
  obtain ⟨v, v1, v2⟩ := (kvk_val (key := key) w6).2 d g5
  refine ⟨l, v, rfl, ?_, q _ H1 e1 (dp_ex (cut_mono e1) v2)⟩
  have := DGet.k (H := H1) (k := key) (e1 _ _ w5)
  rw [v1] at this
  exact this⟩
/-! ### where a token is out -/
structure MDt {ι : Type} (X : ι → Cx) (K : PySem.W.Frag) (M : List Nat) (e : Expr) (t : TE) (m : En → Option PyData) : Prop where
  pe : ∀ i, PET (X i) e t
  sd : Snd K M t m
structure MAt {ι : Type} (X : ι → Cx) (K : PySem.W.Frag) (M : List Nat) (es : List Expr) (t : TA) (m : En → Option (List PyData)) : Prop where
  pa : ∀ i, PAT (X i) es t
  sd : SndA K M t m
structure MSt {ι : Type} (X : ι → Cx) (K : PySem.W.Frag) (M : List Nat) (st : Stmt) (t : TS) (m : En → Option Fl) : Prop where
  ps : ∀ i, PST (X i) st t
  sd : SndS K M t m
structure MSst {ι : Type} (X : ι → Cx) (K : PySem.W.Frag) (M : List Nat) (sts : List Stmt) (t : TS) (m : En → Option Fl) : Prop where
  ps : ∀ i, PSsT (X i) sts t
  sd : SndS K M t m
theorem dt_of (h : MD X K M e te me) : MDt X K M e te me := ⟨fun i pins s σ H Q _ I q => (h.pe i).run pins s σ H Q I q, h.sd⟩
theorem at_nil : MAt X K M [] tNil mNil := ⟨fun _ => pat_nil, a_nil (X := X).sd⟩
theorem at_cons {es : List Expr} {tr : TA} {mr : En → Option (List PyData)} (h : MDt X K M e te me) (hr : MAt X K M es tr mr) (hs : ∀ i, starEach (e :: es) (X i).env = (false, eval e (X i).env) :: starEach es (X i).env := by exact fun _ => rfl) : MAt X K M (e :: es) (tCons te tr) (mCons me mr) :=
  ⟨fun i => pat_cons (h.pe i) (hr.pa i) (hs i), fun H0 O0 O σ H env ds s hm Q q => by
    obtain ⟨d, r, h1, h2, h3⟩ := bind2 hm
    cases h3
    refine h.sd H0 O0 O σ H env d s h1 _ fun x H1 e1 hx => ?_
    exact hr.sd H0 O0 O σ H1 env r (s.ex e1) h2 _ fun xs H2 e2 hxs => q _ H2 (e1.trans e2) (.cons (dp_ex (cut_mono e2) hx) hxs)⟩
def mRepl (y z : Str) (m : En → Option PyData) : En → Option PyData := fun env => (m env).bind fun d => match d with
  | .str x => if x.length + (x.length + 1) * z.length ≤ 16777216 then some (.str (Txt.replace x y z)) else none
  | _ => none
theorem dt_repl {y z : Str} {j j2 : Nat} {c0 c1 p1 : Pos} (h : MD X K M a ta ma) (hyz : (y == z) = false := by decide)
    (hst : ∀ i, starEach [.Constant (.str y) j c0, .Constant (.str z) j2 c1] (X i).env = [(false, eval (.Constant (.str y) j c0) (X i).env), (false, eval (.Constant (.str z) j2 c1) (X i).env)] := by exact fun _ => rfl)
    (hbase : ∀ i, attributeBase a "replace" (X i).env (eval a (X i).env) = eval a (X i).env := by exact fun _ => rfl) (hline : (p1.endLine == pos.line) = true := by rfl) :
    MDt X K M (.Call (.Attribute a "replace" p1) [.Constant (.str y) j c0, .Constant (.str z) j2 c1] [] pos) (CwR.tReplC ta y z) (mRepl y z ma) := ⟨fun i => CwR.pet_replC (h.pe i) hyz (hst i) (hbase i) hline, fun H0 O0 O σ H env d s hm Q q => by
  obtain ⟨d1, h1, h2⟩ := bind1 hm
  refine h.sd H0 O0 O σ H env d1 s h1 _ fun v H1 e1 hv => ?_
  cases hv with
  | str x =>
    obtain ⟨hz, rfl⟩ := ite_some h2
    exact ⟨x, rfl, hz, q _ H1 e1 (.str _)⟩
  | _ => cases h2⟩
theorem dt_call {j : Nat} {f : Addr} {fd : FuncData} {ps : List Str} {x : Str} {p : Pos} {es : List Expr} {fn : List PyData → Option PyData} {t : TA} {ms : En → Option (List PyData)} (G : ∀ i, FnOk (X i).prog (X i).w (X i).K (X i).mg (X i).base CX0 j f fd ps (spD K ps.length fn)) (hr : ∀ i, Room j (X i).A)
    (hm : ∀ i, (X i).mg x = some (.ref f)) (hk : ∀ i, PySem.W.keepIn (X i).K (.ref f) = true) (hb : ∀ i, Binds (X i).K fd ps []) (h : MAt X K M (e :: es) t ms) (hl : ∀ env ds, ms env = some ds → ds.length = ps.length)
    (hg : ∀ i, Gl (X i) x := by exact fun _ => rfl) (hdb : (x == ("__debug__" : Str)) = false := by decide) (he : ∀ i, starEach (e :: es) (X i).env = (false, eval e (X i).env) :: starEach es (X i).env := by exact fun _ => rfl) (hpl : ∀ i, (backTo pos (starEach es (X i).env)).any (·.1) = false := by exact fun _ => rfl) :
    MDt X K M (.Call (.Name x p) (e :: es) [] pos) (tCall (spD K ps.length fn) [] E0 t) (mCB fn ms) :=
  ⟨fun i pins s σ H Q h0 I q => wpAny_Call_Name_kw (ld_glob I (hg i) (hm i) (PySem.W.callWith_K (h₀ := (X i).base) I.ok.mod.kin (hk i) (thn (h.pa i pos pins s σ H _ h0 I q) fun us s1 got => by
    obtain ⟨vs, H1, I1, r, q1⟩ := got
    exact ⟨I1.kIn, run_fn (G i) (hr i) (hb i) .nil pass0 I1 r q1⟩) (he i) (hpl i)) hdb), fun H0 O0 O σ H env d s hmm Q q => by
    obtain ⟨ds, h1, h2⟩ := bind1 hmm
    refine h.sd H0 O0 O σ H env ds s h1 _ fun vs H1 e1 hv => ?_
    refine ⟨ds, d, O, by rw [List.append_nil, dpAll_len hv]; exact hl env ds h1, (s.ex e1).there, by rw [List.append_nil]; exact hv, h2, fun v H2 e2 h3 => q v H2 (e1.trans e2) h3⟩⟩
theorem st_of {st : Stmt} {t : TS} {m : En → Option Fl} (h : MS X K M st t m) : MSt X K M st t m := ⟨fun i pins s σ H D _ I q => (h.ps i).run pins s σ H D I q, h.sd⟩
theorem st_set (F : Fam X K N k) (i : Nat) {x : Str} {pos' : Pos} (h : MDt X K M e te me) (hi : i ∉ M := by decide) (hx : N[i]? = some x := by rfl) (hl : ∀ j, Loc (X j).env.scope x := by first | exact fun _ => Or.inl rfl | exact fun _ => Or.inr rfl) (hs : ∀ j, swapsWith e (some (.Name x pos')) pos.line (X j).env = pure false := by exact fun _ => rfl)
    (hf : ∀ j, (X j).fn x = true ∨ (X j).env.scope.names.lookup x = some .local := by first | exact fun _ => .inl rfl | exact fun _ => .inr rfl) : MSt X K M (.Assign [.Name x pos'] e pos) (tAsg te (gName i)) (mAsg me (gB i)) :=
  ⟨fun j pins s σ H D h0 I q => wpAny_Assign_Name (thn (h.pe j pins s σ H _ h0 I q) fun v s1 got => by
    obtain ⟨y, H1, I1, r1, q1⟩ := got
    exact store_ok I1 (by rw [F.hN j]; exact F.nd) (by rw [F.hN j]; exact hx) (hl j) r1 (fun s2 I2 => ⟨_, H1, I2, q1⟩) (hf j)) (hs j), snd_asg h.sd fun H0 O0 O σ H env d env' v s hv hb Q q => by
    cases hb
    exact q _ (s.set hi hv)⟩
theorem st_if {t : TT} {u w : TS} {m : En → Option Bool} {n p : En → Option Fl} {bs cs : List Stmt} (hc : MT X K M c t m) (ha : MSst X K M bs u n) (hb : MSst X K M cs w p) : MSt X K M (.If c bs cs pos) (tIfS t u w) (mIfS m n p) := ⟨fun i => CwR.pst_if (hc.pt i) (ha.ps i) (hb.ps i), fun H0 O0 O σ H env fl D s hm q => by
  obtain ⟨x, g1, g2⟩ := bind1 hm
  refine hc.sd H0 O0 O σ H env x s g1 _ fun H1 e1 => ?_
  cases x with
  | true =>
    rw [if_pos rfl] at g2 ⊢
    exact ha.sd H0 O0 O σ H1 env fl D (s.ex e1) g2 (q.weaken (cut_mono e1))
  | false =>
    rw [if_neg Bool.false_ne_true] at g2 ⊢
    exact hb.sd H0 O0 O σ H1 env fl D (s.ex e1) g2 (q.weaken (cut_mono e1))⟩
theorem sst_nil : MSst X K M [] tNext mNext := ⟨fun _ => CwR.psst_nil, ss_nil (X := X).sd⟩
theorem sst_one {st : Stmt} {t : TS} {m : En → Option Fl} (h : MSt X K M st t m) : MSst X K M [st] t m := ⟨fun i => by
  intro pins s σ H D h0 I q
  refine wpAny_execs_cons (wpAny_mono (h.ps i pins s σ H D h0 I q) (fun f s1 z => ?_) fun _ _ z => z)
  cases f with
  | next =>
    obtain ⟨σ', H', I', z⟩ := z
    exact wpAny_execs_nil ⟨σ', H', I', z⟩
  | ret v => exact z
  | brk => exact z
  | cont => exact z, h.sd⟩
theorem sst_cons {st : Stmt} {rest : List Stmt} {t u : TS} {m n : En → Option Fl} (h1 : MSt X K M st t m) (h2 : MSst X K M rest u n) : MSst X K M (st :: rest) (tSeq t u) (mSeq m n) := ⟨fun i => psst_cons (h1.ps i) (h2.ps i), snd_seq h1.sd h2.sd⟩
section
variable {P : Program} {w : World} {mg : Str → Option Value} {base : Heap}
theorem fn_dataT {x qual : Str} {st : Stmt} {f : Addr} {fd : FuncData} {ps : List Str} {j : Nat} {t : TS} {m : En → Option Fl} (F : Fun K x qual st f fd) (S : FnScope N ps (defScope st)) (nocell : ∀ y ∈ (defScope st).names, y.2 ≠ .cell) (some_ : 1 ≤ ps.length) (hM : ∀ i ∈ M, ps.length ≤ i) (h : MSst (defF P w K mg base N qual (defScope st) f j) K M (defBody st) t m) :
    FnOk P w K mg base CX0 (j + 1) f fd ps (spD K ps.length (runB N.length m)) := by
  (obtain ⟨oc, od, kV, doc, pm, an, cdv, ct, osl, rfl, lk, hcd⟩ := F.ex)
  refine fn_ofT lk hcd S nocell some_ (fun vs H Q E hq => ?_) fun A outer s H vs Q E hr hq => ?_
  · obtain ⟨ds, d, O, hl, _⟩ := hq
    exact hl
  · obtain ⟨ds, d, O, hl, ht, hv, hf, q⟩ := hq
    refine ⟨t, fun pins s2 σ2 H2 D h0 I hw => wpAny_mono (h.ps ⟨⟨cdv, A, outer, s, H, E⟩, hr⟩ pins s2 σ2 H2 D h0 (I.wish _) hw) (fun _ _ z => z.unwish) fun _ _ z => z.elim, ?_⟩
    obtain ⟨fl, g1, g2⟩ := bind1 hf
    refine h.sd H O O _ H _ fl _ (start_sl (n := N.length) ht hv (by rw [hl]; exact hM)) g1 ?_
    cases fl with
    | nx env =>
      cases g2
      exact fun σ' H' O' s' _ => q _ H' s'.ext .non
    | rt r =>
      cases g2
      exact fun v H' e hv => q v H' e hv
    | bk env => cases g2
    | ct env => cases g2
end
end

end Rv
namespace Rv
open PySem L2 PySem.Spec PyProof.Rows
/-! The data layer, part K: a display as a new list. -/
section
variable {ι : Type} {X : ι → Cx} {K : PySem.W.Frag} {N : List Str} {k : Nat} {M : List Nat} {a b c e tg : Expr} {ta tb tc te : TE} {ma mb mc me : En → Option PyData} {pos : Pos}
theorem f_lst {es : List Expr} {t : TA} {ms : En → Option (List PyData)} (h : MA X K M es t ms) : MF X K M (.List es pos) (tLst t) (mLst ms) := ⟨fun i => pe_lst (h.pa i), fun H0 O0 O σ H env d s hm Q q => by
  obtain ⟨ds, h1, h2⟩ := bind1 hm
  obtain ⟨hz, e⟩ := ite_some h2
  subst e
  exact h.sd H0 O0 O σ H env ds s h1 _ fun vs H1 e1 hv => ⟨by rw [dpAll_len hv]; exact hz, fun p hp => q p vs ds _ (e1.free hp) (e1.trans (Ex.new hp)) rfl upd_same (by rw [cut_cons hp]; exact hv)⟩⟩
end

end Rv
namespace Rv
open PySem L2 PySem.Spec PyProof.Rows
/-! the mirrors of the program's defs, and that they are sound -/
def topS (i : Nat) : Stmt := PySem.Challenge.pw_rowveil_k06_what_is_a_condition.main.body.getD i (.Pass ⟨0, 0, 0, 0⟩)
def tab_FORMS : List (Str × PyData) := [("yes", (.tuple [])), ("is", (.tuple [(.str "column"), (.str "value")])), ("below", (.tuple [(.str "column"), (.str "value")])), ("same", (.tuple [(.str "column"), (.str "column")])), ("mine", (.tuple [(.str "column")])), ("empty", (.tuple [(.str "column")])), ("loud", (.tuple [(.str "column")])), ("has", (.tuple [(.str "table"), (.str "column"), (.str "there"), (.str "condition")])), ("not", (.tuple [(.str "condition")])), ("and", (.tuple [(.str "condition"), (.str "condition")])), ("or", (.tuple [(.str "condition"), (.str "condition")]))]
def tab_MOST_VALUES : List (Str × PyData) := [("is", (.int 9)), ("below", (.int 10))]
def c_MOST_CONDITIONS : PyData := (.int 8)
abbrev s_is_whole : Stmt := topS 1
abbrev s_is_whole_within : Stmt := topS 2
abbrev s_word_of : Stmt := topS 3
abbrev s_find_table : Stmt := topS 5
abbrev s_column_names : Stmt := topS 6
abbrev s_has_form : Stmt := topS 11
abbrev s_names_table : Stmt := topS 12
abbrev s_is_part : Stmt := topS 13
abbrev s_conditions_here : Stmt := topS 14
abbrev s_parts_within : Stmt := topS 15
abbrev s_all_parts : Stmt := topS 16
abbrev s_bounded_parts : Stmt := topS 17
abbrev s_is_condition : Stmt := topS 18
abbrev s_law_cell_at : Stmt := topS 20
abbrev s_law_draws : Stmt := topS 21
abbrev s_law_name : Stmt := topS 22
abbrev s_law_columns : Stmt := topS 23
abbrev s_law_ground : Stmt := topS 24
abbrev s_law_atom : Stmt := topS 25
abbrev s_law_condition : Stmt := topS 26
abbrev s_law_new_names : Stmt := topS 27
abbrev s_law_odd : Stmt := topS 28
abbrev s_law_spoilt : Stmt := topS 29
abbrev s_law_from : Stmt := topS 30
abbrev s_law_names_of : Stmt := topS 31
abbrev s_law_sound : Stmt := topS 32
abbrev s_law_is_condition : Stmt := topS 33
abbrev s_law_some_columns : Stmt := topS 34
abbrev s_law : Stmt := topS 35
structure Txt (K : PySem.W.Frag) (mg : Str → Option Value) (wd : World) where
  n_isinstance : mg "isinstance" = none
  n_bool : mg "bool" = none
  n_int : mg "int" = none
  n_str : mg "str" = none
  n_tuple : mg "tuple" = none
  n_len : mg "len" = none
  n_zip : mg "zip" = none
  n_range : mg "range" = none
  n_min : mg "min" = none
  n_sorted : mg "sorted" = none
  n_any : mg "any" = none
  n_list : mg "list" = none
  n_all : mg "all" = none
  n_sum : mg "sum" = none
  n_repr : mg "repr" = none
  q_FORMS : Addr
  mg_FORMS : mg "FORMS" = some (.ref q_FORMS)
  kd_FORMS : KDt K wd q_FORMS tab_FORMS
  q_MOST_VALUES : Addr
  mg_MOST_VALUES : mg "MOST_VALUES" = some (.ref q_MOST_VALUES)
  kd_MOST_VALUES : KDt K wd q_MOST_VALUES tab_MOST_VALUES
  u_MOST_CONDITIONS : Value
  v_MOST_CONDITIONS : V
  mg_MOST_CONDITIONS : mg "MOST_CONDITIONS" = some u_MOST_CONDITIONS
  rl_MOST_CONDITIONS : RelV v_MOST_CONDITIONS u_MOST_CONDITIONS
  dp_MOST_CONDITIONS : ∀ H, Dp K H v_MOST_CONDITIONS c_MOST_CONDITIONS
  f_is_whole : Addr
  fd_is_whole : FuncData
  F_is_whole : Fun K "is_whole" "is_whole" s_is_whole f_is_whole fd_is_whole
  b_is_whole : Binds K fd_is_whole ["thing"] []
  g_is_whole : mg "is_whole" = some (.ref f_is_whole)
  k_is_whole : PySem.W.keepIn K (.ref f_is_whole) = true
  f_is_whole_within : Addr
  fd_is_whole_within : FuncData
  F_is_whole_within : Fun K "is_whole_within" "is_whole_within" s_is_whole_within f_is_whole_within fd_is_whole_within
  b_is_whole_within : Binds K fd_is_whole_within ["thing", "least", "most"] []
  g_is_whole_within : mg "is_whole_within" = some (.ref f_is_whole_within)
  k_is_whole_within : PySem.W.keepIn K (.ref f_is_whole_within) = true
  f_word_of : Addr
  fd_word_of : FuncData
  F_word_of : Fun K "word_of" "word_of" s_word_of f_word_of fd_word_of
  b_word_of : Binds K fd_word_of ["thing"] []
  g_word_of : mg "word_of" = some (.ref f_word_of)
  k_word_of : PySem.W.keepIn K (.ref f_word_of) = true
  f_find_table : Addr
  fd_find_table : FuncData
  F_find_table : Fun K "find_table" "find_table" s_find_table f_find_table fd_find_table
  b_find_table : Binds K fd_find_table ["ground", "name"] []
  g_find_table : mg "find_table" = some (.ref f_find_table)
  k_find_table : PySem.W.keepIn K (.ref f_find_table) = true
  f_column_names : Addr
  fd_column_names : FuncData
  F_column_names : Fun K "column_names" "column_names" s_column_names f_column_names fd_column_names
  b_column_names : Binds K fd_column_names ["table"] []
  g_column_names : mg "column_names" = some (.ref f_column_names)
  k_column_names : PySem.W.keepIn K (.ref f_column_names) = true
  f_has_form : Addr
  fd_has_form : FuncData
  F_has_form : Fun K "has_form" "has_form" s_has_form f_has_form fd_has_form
  b_has_form : Binds K fd_has_form ["thing"] []
  g_has_form : mg "has_form" = some (.ref f_has_form)
  k_has_form : PySem.W.keepIn K (.ref f_has_form) = true
  f_names_table : Addr
  fd_names_table : FuncData
  F_names_table : Fun K "names_table" "names_table" s_names_table f_names_table fd_names_table
  b_names_table : Binds K fd_names_table ["ground", "thing"] []
  g_names_table : mg "names_table" = some (.ref f_names_table)
  k_names_table : PySem.W.keepIn K (.ref f_names_table) = true
  f_is_part : Addr
  fd_is_part : FuncData
  F_is_part : Fun K "is_part" "is_part" s_is_part f_is_part fd_is_part
  b_is_part : Binds K fd_is_part ["ground", "columns", "thing"] []
  g_is_part : mg "is_part" = some (.ref f_is_part)
  k_is_part : PySem.W.keepIn K (.ref f_is_part) = true
  f_conditions_here : Addr
  fd_conditions_here : FuncData
  F_conditions_here : Fun K "conditions_here" "conditions_here" s_conditions_here f_conditions_here fd_conditions_here
  b_conditions_here : Binds K fd_conditions_here ["condition"] []
  g_conditions_here : mg "conditions_here" = some (.ref f_conditions_here)
  k_conditions_here : PySem.W.keepIn K (.ref f_conditions_here) = true
  f_parts_within : Addr
  fd_parts_within : FuncData
  F_parts_within : Fun K "parts_within" "parts_within" s_parts_within f_parts_within fd_parts_within
  b_parts_within : Binds K fd_parts_within ["ground", "columns", "condition"] []
  g_parts_within : mg "parts_within" = some (.ref f_parts_within)
  k_parts_within : PySem.W.keepIn K (.ref f_parts_within) = true
  f_all_parts : Addr
  fd_all_parts : FuncData
  F_all_parts : Fun K "all_parts" "all_parts" s_all_parts f_all_parts fd_all_parts
  b_all_parts : Binds K fd_all_parts ["ground", "columns", "thing", "most"] []
  g_all_parts : mg "all_parts" = some (.ref f_all_parts)
  k_all_parts : PySem.W.keepIn K (.ref f_all_parts) = true
  f_bounded_parts : Addr
  fd_bounded_parts : FuncData
  F_bounded_parts : Fun K "bounded_parts" "bounded_parts" s_bounded_parts f_bounded_parts fd_bounded_parts
  b_bounded_parts : Binds K fd_bounded_parts ["ground", "columns", "thing"] []
  g_bounded_parts : mg "bounded_parts" = some (.ref f_bounded_parts)
  k_bounded_parts : PySem.W.keepIn K (.ref f_bounded_parts) = true
  f_is_condition : Addr
  fd_is_condition : FuncData
  F_is_condition : Fun K "is_condition" "is_condition" s_is_condition f_is_condition fd_is_condition
  b_is_condition : Binds K fd_is_condition ["ground", "columns", "thing"] []
  g_is_condition : mg "is_condition" = some (.ref f_is_condition)
  k_is_condition : PySem.W.keepIn K (.ref f_is_condition) = true
  f_law_cell_at : Addr
  fd_law_cell_at : FuncData
  F_law_cell_at : Fun K "_law_cell_at" "_law_cell_at" s_law_cell_at f_law_cell_at fd_law_cell_at
  b_law_cell_at : Binds K fd_law_cell_at ["script", "k"] []
  g_law_cell_at : mg "_law_cell_at" = some (.ref f_law_cell_at)
  k_law_cell_at : PySem.W.keepIn K (.ref f_law_cell_at) = true
  f_law_draws : Addr
  fd_law_draws : FuncData
  F_law_draws : Fun K "_law_draws" "_law_draws" s_law_draws f_law_draws fd_law_draws
  b_law_draws : Binds K fd_law_draws ["cell", "many", "base"] []
  g_law_draws : mg "_law_draws" = some (.ref f_law_draws)
  k_law_draws : PySem.W.keepIn K (.ref f_law_draws) = true
  f_law_name : Addr
  fd_law_name : FuncData
  F_law_name : Fun K "_law_name" "_law_name" s_law_name f_law_name fd_law_name
  b_law_name : Binds K fd_law_name ["some", "taken"] []
  g_law_name : mg "_law_name" = some (.ref f_law_name)
  k_law_name : PySem.W.keepIn K (.ref f_law_name) = true
  f_law_columns : Addr
  fd_law_columns : FuncData
  F_law_columns : Fun K "_law_columns" "_law_columns" s_law_columns f_law_columns fd_law_columns
  b_law_columns : Binds K fd_law_columns ["picks", "many", "top"] []
  g_law_columns : mg "_law_columns" = some (.ref f_law_columns)
  k_law_columns : PySem.W.keepIn K (.ref f_law_columns) = true
  f_law_ground : Addr
  fd_law_ground : FuncData
  F_law_ground : Fun K "_law_ground" "_law_ground" s_law_ground f_law_ground fd_law_ground
  b_law_ground : Binds K fd_law_ground ["picks", "top"] []
  g_law_ground : mg "_law_ground" = some (.ref f_law_ground)
  k_law_ground : PySem.W.keepIn K (.ref f_law_ground) = true
  f_law_atom : Addr
  fd_law_atom : FuncData
  F_law_atom : Fun K "_law_atom" "_law_atom" s_law_atom f_law_atom fd_law_atom
  b_law_atom : Binds K fd_law_atom ["picks", "columns", "ways"] []
  g_law_atom : mg "_law_atom" = some (.ref f_law_atom)
  k_law_atom : PySem.W.keepIn K (.ref f_law_atom) = true
  f_law_condition : Addr
  fd_law_condition : FuncData
  F_law_condition : Fun K "_law_condition" "_law_condition" s_law_condition f_law_condition fd_law_condition
  b_law_condition : Binds K fd_law_condition ["picks", "parts", "ground", "columns", "ways"] []
  g_law_condition : mg "_law_condition" = some (.ref f_law_condition)
  k_law_condition : PySem.W.keepIn K (.ref f_law_condition) = true
  f_law_new_names : Addr
  fd_law_new_names : FuncData
  F_law_new_names : Fun K "_law_new_names" "_law_new_names" s_law_new_names f_law_new_names fd_law_new_names
  b_law_new_names : Binds K fd_law_new_names ["picks", "many", "taken"] []
  g_law_new_names : mg "_law_new_names" = some (.ref f_law_new_names)
  k_law_new_names : PySem.W.keepIn K (.ref f_law_new_names) = true
  f_law_odd : Addr
  fd_law_odd : FuncData
  F_law_odd : Fun K "_law_odd" "_law_odd" s_law_odd f_law_odd fd_law_odd
  b_law_odd : Binds K fd_law_odd ["picks"] []
  g_law_odd : mg "_law_odd" = some (.ref f_law_odd)
  k_law_odd : PySem.W.keepIn K (.ref f_law_odd) = true
  f_law_spoilt : Addr
  fd_law_spoilt : FuncData
  F_law_spoilt : Fun K "_law_spoilt" "_law_spoilt" s_law_spoilt f_law_spoilt fd_law_spoilt
  b_law_spoilt : Binds K fd_law_spoilt ["thing", "picks"] []
  g_law_spoilt : mg "_law_spoilt" = some (.ref f_law_spoilt)
  k_law_spoilt : PySem.W.keepIn K (.ref f_law_spoilt) = true
  f_law_from : Addr
  fd_law_from : FuncData
  F_law_from : Fun K "_law_from" "_law_from" s_law_from f_law_from fd_law_from
  b_law_from : Binds K fd_law_from ["thing", "least", "top"] []
  g_law_from : mg "_law_from" = some (.ref f_law_from)
  k_law_from : PySem.W.keepIn K (.ref f_law_from) = true
  f_law_names_of : Addr
  fd_law_names_of : FuncData
  F_law_names_of : Fun K "_law_names_of" "_law_names_of" s_law_names_of f_law_names_of fd_law_names_of
  b_law_names_of : Binds K fd_law_names_of ["ground", "name"] []
  g_law_names_of : mg "_law_names_of" = some (.ref f_law_names_of)
  k_law_names_of : PySem.W.keepIn K (.ref f_law_names_of) = true
  f_law_sound : Addr
  fd_law_sound : FuncData
  F_law_sound : Fun K "_law_sound" "_law_sound" s_law_sound f_law_sound fd_law_sound
  b_law_sound : Binds K fd_law_sound ["ground", "columns", "thing", "plain", "inside"] []
  g_law_sound : mg "_law_sound" = some (.ref f_law_sound)
  k_law_sound : PySem.W.keepIn K (.ref f_law_sound) = true
  f_law_is_condition : Addr
  fd_law_is_condition : FuncData
  F_law_is_condition : Fun K "_law_is_condition" "_law_is_condition" s_law_is_condition f_law_is_condition fd_law_is_condition
  b_law_is_condition : Binds K fd_law_is_condition ["ground", "columns", "thing"] []
  g_law_is_condition : mg "_law_is_condition" = some (.ref f_law_is_condition)
  k_law_is_condition : PySem.W.keepIn K (.ref f_law_is_condition) = true
  f_law_some_columns : Addr
  fd_law_some_columns : FuncData
  F_law_some_columns : Fun K "_law_some_columns" "_law_some_columns" s_law_some_columns f_law_some_columns fd_law_some_columns
  b_law_some_columns : Binds K fd_law_some_columns ["picks", "ground"] []
  g_law_some_columns : mg "_law_some_columns" = some (.ref f_law_some_columns)
  k_law_some_columns : PySem.W.keepIn K (.ref f_law_some_columns) = true
  f_law : Addr
  fd_law : FuncData
  F_law : Fun K "law" "law" s_law f_law fd_law
  b_law : Binds K fd_law ["script"] []
  g_law : mg "law" = some (.ref f_law)
  k_law : PySem.W.keepIn K (.ref f_law) = true

/-! is_whole, level 1 -/
theorem sc_is_whole : FnScope ["thing"] ["thing"] (defScope s_is_whole) := ⟨rfl, rfl, rfl, by decide +kernel, rfl, by decide +kernel, by decide +kernel⟩
def mb_is_whole : En → Option Fl :=
    (mRet (mAnd (mIsi (isiD "int") (mVar 0)) (mNot (mIsi (isiD "bool") (mVar 0)))))
def fm_is_whole : List PyData → Option PyData := runB 1 mb_is_whole
theorem ok_is_whole {P : Program} {w : World} {K : PySem.W.Frag} {mg : Str → Option Value} {base : Heap} (T : Txt K mg w)  : FnOk P w K mg base CX0 1 T.f_is_whole T.fd_is_whole ["thing"] (spD K 1 fm_is_whole) := by
  have F := defF_fam (P := P) (w := w) (K := K) (mg := mg) (base := base) (qual := "is_whole") (sc := defScope s_is_whole) (f := T.f_is_whole) (j := 0) sc_is_whole.nd
  have hS := fun i => (rfl : (defF P w K mg base ["thing"] "is_whole" (defScope s_is_whole) T.f_is_whole 0 i).env.scope = defScope s_is_whole)
  exact fn_data (M := []) T.F_is_whole sc_is_whole (by decide)
      (ss_one
      (s_ret (d_and F (d_isi F "int" (q_of (d_var 0)) (fun _ => T.n_isinstance) (fun _ => T.n_int) isiT_int (by decide +kernel)) (d_one (d_not F (q_of (d_isi F "bool" (q_of (d_var 0)) (fun _ => T.n_isinstance) (fun _ => T.n_bool) isiT_bool (by decide +kernel))))))))

/-! word_of, level 1 -/
theorem sc_word_of : FnScope ["thing"] ["thing"] (defScope s_word_of) := ⟨rfl, rfl, rfl, by decide +kernel, rfl, by decide +kernel, by decide +kernel⟩
def mb_word_of : En → Option Fl :=
    (mSeq
    (mIfS (mOrT (mNotT (mTru (mIsi (isiD "tuple") (mVar 0)))) (mOrT (mNotT (mTru (mVar 0))) (mNotT (mTru (mIsi (isiD "str") (mBin dIx (mVar 0) (mC (.int 0)))))))) (mRet (mC .none)) mNext)
    (mRet (mBin dIx (mVar 0) (mC (.int 0)))))
def fm_word_of : List PyData → Option PyData := runB 1 mb_word_of
theorem ok_word_of {P : Program} {w : World} {K : PySem.W.Frag} {mg : Str → Option Value} {base : Heap} (T : Txt K mg w)  : FnOk P w K mg base CX0 1 T.f_word_of T.fd_word_of ["thing"] (spD K 1 fm_word_of) := by
  have F := defF_fam (P := P) (w := w) (K := K) (mg := mg) (base := base) (qual := "word_of") (sc := defScope s_word_of) (f := T.f_word_of) (j := 0) sc_word_of.nd
  have hS := fun i => (rfl : (defF P w K mg base ["thing"] "word_of" (defScope s_word_of) T.f_word_of 0 i).env.scope = defScope s_word_of)
  exact fn_data (M := []) T.F_word_of sc_word_of (by decide)
      (ss_cons
      (s_if (w_pt (w_or (t_not (t_tru F (q_of (d_isi F "tuple" (q_of (d_var 0)) (fun _ => T.n_isinstance) (fun _ => T.n_tuple) isiT_tuple (by decide +kernel))))) (w_or (t_not (t_tru F (q_of (d_var 0)))) (w_or1 (t_not (t_tru F (q_of (d_isi F "str" (q_of (d_ix (fun i => ix_seqK (F.hK i)) opd_ix (q_of (d_var 0)) (q_of d_int))) (fun _ => T.n_isinstance) (fun _ => T.n_str) isiT_str (by decide +kernel))))))))) (ss_one
      (s_ret d_non)) ss_nil)
      (ss_one
      (s_ret (d_ix (fun i => ix_seqK (F.hK i)) opd_ix (q_of (d_var 0)) (q_of d_int)))))

/-! find_table, level 1 -/
theorem sc_find_table : FnScope ["ground", "name", "table"] ["ground", "name"] (defScope s_find_table) := ⟨rfl, rfl, rfl, by decide +kernel, rfl, by decide +kernel, by decide +kernel⟩
def lb1_find_table : En → Option Fl :=
    (mIfS (mTst (mBin dEq (mBin dIx (mVar 2) (mC (.int 0))) (mVar 1))) (mRet (mVar 2)) mNext)
def mb_find_table : En → Option Fl :=
    (mSeq
    (mFor (mIt (mVar 0)) (gB 2) lb1_find_table)
    (mRet (mC .none)))
def fm_find_table : List PyData → Option PyData := runB 3 mb_find_table
theorem ok_find_table {P : Program} {w : World} {K : PySem.W.Frag} {mg : Str → Option Value} {base : Heap} (T : Txt K mg w)  : FnOk P w K mg base CX0 1 T.f_find_table T.fd_find_table ["ground", "name"] (spD K 2 fm_find_table) := by
  have F := defF_fam (P := P) (w := w) (K := K) (mg := mg) (base := base) (qual := "find_table") (sc := defScope s_find_table) (f := T.f_find_table) (j := 0) sc_find_table.nd
  have hS := fun i => (rfl : (defF P w K mg base ["ground", "name", "table"] "find_table" (defScope s_find_table) T.f_find_table 0 i).env.scope = defScope s_find_table)
  exact fn_data (M := []) T.F_find_table sc_find_table (by decide)
      (ss_cons
      (s_for F (fun _ => PassesOwn.never) (i_seq F (d_var 0)) (g_name F 2) (ss_one
      (s_if (t_cmp (fun i => op_eqK (F.hK i) (F.u64 i)) opd_eq (q_of (d_ix (fun i => ix_seqK (F.hK i)) opd_ix (q_of (d_var 2)) (q_of d_int))) (q_of (d_var 1))) (ss_one
      (s_ret (d_var 2))) ss_nil)))
      (ss_one
      (s_ret d_non)))

/-! column_names, level 1 -/
theorem sc_column_names : FnScope ["table", "column"] ["table"] (defScope s_column_names) := ⟨rfl, rfl, rfl, by decide +kernel, rfl, by decide +kernel, by decide +kernel⟩
def le1_column_names : En → Option PyData :=
    (mBin dIx (mVar 1) (mC (.int 0)))
def mb_column_names : En → Option Fl :=
    (mRet (mCB bTuple (mCons (mLc [1] (mIt (mBin dIx (mVar 0) (mC (.int 2)))) (gB 1) mYes le1_column_names) mNil)))
def fm_column_names : List PyData → Option PyData := runB 2 mb_column_names
theorem ok_column_names {P : Program} {w : World} {K : PySem.W.Frag} {mg : Str → Option Value} {base : Heap} (T : Txt K mg w)  : FnOk P w K mg base CX0 1 T.f_column_names T.fd_column_names ["table"] (spD K 1 fm_column_names) := by
  have F := defF_fam (P := P) (w := w) (K := K) (mg := mg) (base := base) (qual := "column_names") (sc := defScope s_column_names) (f := T.f_column_names) (j := 0) sc_column_names.nd
  have hS := fun i => (rfl : (defF P w K mg base ["table", "column"] "column_names" (defScope s_column_names) T.f_column_names 0 i).env.scope = defScope s_column_names)
  exact fn_data (M := []) T.F_column_names sc_column_names (by decide)
      (ss_one
      (s_ret (d_ty (fun i => cr_tuple (F.hK i)) crd_tuple (fun _ => T.n_tuple) (by decide +kernel) (b_cons (q_of (d_lc F [("column", 1)] (i_weak (i_seq F (d_ix (fun i => ix_seqK (F.hK i)) opd_ix (q_of (d_var 0)) (q_of d_int)))) hS (blkOk_by (by decide +kernel)) (g_name (F.blk _) 1) gk_name ts_nil (d_ix (fun i => ix_seqK ((F.blk _).hK i)) opd_ix (q_of (d_var 1)) (q_of d_int)))) b_nil))))

/-! conditions_here, level 1 -/
theorem sc_conditions_here : FnScope ["condition", "kind", "part"] ["condition"] (defScope s_conditions_here) := ⟨rfl, rfl, rfl, by decide +kernel, rfl, by decide +kernel, by decide +kernel⟩
def lt1_conditions_here : En → Option Bool :=
    (mTst (mBin dEq (mVar 1) (mC (.str "condition"))))
def le1_conditions_here : En → Option PyData :=
    (mVar 2)
def mb_conditions_here : En → Option Fl :=
    (mSeq
    (mIfS (mTst (mBin dEq (mBin dIx (mVar 0) (mC (.int 0))) (mC (.str "has")))) (mRet (mLst mNil)) mNext)
    (mRet (mLc [1, 2] (mRng zpd (mCons (mUn (getTab tab_FORMS) (mBin dIx (mVar 0) (mC (.int 0)))) (mCons (mSl (mVar 0) (mPart (mC (.int 1))) mNoPart) mNil))) (gT 2 (gsC (gB 1) (gsC (gB 2) gsN))) lt1_conditions_here le1_conditions_here)))
def fm_conditions_here : List PyData → Option PyData := runB 3 mb_conditions_here
theorem ok_conditions_here {P : Program} {w : World} {K : PySem.W.Frag} {mg : Str → Option Value} {base : Heap} (T : Txt K mg w)  : FnOk P w K mg base CX0 1 T.f_conditions_here T.fd_conditions_here ["condition"] (spD K 1 fm_conditions_here) := by
  have F := defF_fam (P := P) (w := w) (K := K) (mg := mg) (base := base) (qual := "conditions_here") (sc := defScope s_conditions_here) (f := T.f_conditions_here) (j := 0) sc_conditions_here.nd
  have hS := fun i => (rfl : (defF P w K mg base ["condition", "kind", "part"] "conditions_here" (defScope s_conditions_here) T.f_conditions_here 0 i).env.scope = defScope s_conditions_here)
  exact fn_data (M := []) T.F_conditions_here sc_conditions_here (by decide)
      (ss_cons
      (s_if (t_cmp (fun i => op_eqK (F.hK i) (F.u64 i)) opd_eq (q_of (d_ix (fun i => ix_seqK (F.hK i)) opd_ix (q_of (d_var 0)) (q_of d_int))) (q_of d_str)) (ss_one
      (s_ret (d_lst a_nil))) ss_nil)
      (ss_one
      (s_ret (d_lc F [("kind", 1), ("part", 2)] (i_weak (i_zip F (fun _ => T.n_zip) (a_cons (d_getK F T.kd_FORMS (d_ix (fun i => ix_seqK (F.hK i)) opd_ix (q_of (d_var 0)) (q_of d_int)) (fun _ => pe_glob rfl T.mg_FORMS rfl)) (a_cons (d_sl F (q_of (d_var 0)) (o_some d_int) o_none) a_nil)))) hS (blkOk_by (by decide +kernel)) (g_tup (F.blk _) (gs_cons (g_name (F.blk _) 1) (gs_cons (g_name (F.blk _) 2) gs_nil))) (gk_tup (gk_cons1 (by decide) (gk_cons1 (by decide) gk_nil))) (ts_one (t_cmp (fun i => op_eqK ((F.blk _).hK i) ((F.blk _).u64 i)) opd_eq (q_of (d_var 1)) (q_of d_str))) (d_var 2)))))

/-! law_cell_at, level 1 -/
theorem sc_law_cell_at : FnScope ["script", "k"] ["script", "k"] (defScope s_law_cell_at) := ⟨rfl, rfl, rfl, by decide +kernel, rfl, by decide +kernel, by decide +kernel⟩
def mb_law_cell_at : En → Option Fl :=
    (mSeq
    (mIfS (mTst (mBin dLt (mVar 1) (mCB bLen (mCons (mVar 0) mNil)))) (mRet (mBin dIx (mVar 0) (mVar 1))) mNext)
    (mRet (mC (.int 0))))
def fm_law_cell_at : List PyData → Option PyData := runB 2 mb_law_cell_at
theorem ok_law_cell_at {P : Program} {w : World} {K : PySem.W.Frag} {mg : Str → Option Value} {base : Heap} (T : Txt K mg w)  : FnOk P w K mg base CX0 1 T.f_law_cell_at T.fd_law_cell_at ["script", "k"] (spD K 2 fm_law_cell_at) := by
  have F := defF_fam (P := P) (w := w) (K := K) (mg := mg) (base := base) (qual := "_law_cell_at") (sc := defScope s_law_cell_at) (f := T.f_law_cell_at) (j := 0) sc_law_cell_at.nd
  have hS := fun i => (rfl : (defF P w K mg base ["script", "k"] "_law_cell_at" (defScope s_law_cell_at) T.f_law_cell_at 0 i).env.scope = defScope s_law_cell_at)
  exact fn_data (M := []) T.F_law_cell_at sc_law_cell_at (by decide)
      (ss_cons
      (s_if (t_cmp (fun i => op_ltAll (F.hK i) (F.u64 i)) opd_lt (q_of (d_var 1)) (q_of (d_cb (fun i => cr_len (F.hK i)) crd_len (fun _ => T.n_len) (by decide +kernel) (b_cons (q_of (d_var 0)) b_nil)))) (ss_one
      (s_ret (d_ix (fun i => ix_seqK (F.hK i)) opd_ix (q_of (d_var 0)) (q_of (d_var 1))))) ss_nil)
      (ss_one
      (s_ret d_int)))

/-! law_draws, level 1 -/
theorem sc_law_draws : FnScope ["cell", "many", "base", "found", "rest", "stirred", "k"] ["cell", "many", "base"] (defScope s_law_draws) := ⟨rfl, rfl, rfl, by decide +kernel, rfl, by decide +kernel, by decide +kernel⟩
def lb1_law_draws : En → Option Fl :=
    (mSeq
    (mAsg (mBin dMod (mBin dAdd (mBin dAdd (mBin dAdd (mBin dMul (mVar 5) (mVar 5)) (mBin dMul (mC (.int 48271)) (mVar 5))) (mVar 6)) (mC (.int 1))) (mC (.int 2305843009213693951))) (gB 5))
    (mIfS (mAndT (mTst (mBin dGt (mVar 6) (mC (.int 2)))) (mTst (mBin dGt (mVar 4) (mC (.int 0))))) (mSeq
    (mApp 3 (mBin dMod (mVar 4) (mVar 2)))
    (mAsg (mBin dDiv (mVar 4) (mVar 2)) (gB 4))) (mIfS (mTst (mBin dGt (mVar 6) (mC (.int 2)))) (mApp 3 (mBin dMod (mBin dDiv (mVar 5) (mC (.int 4096))) (mVar 2))) mNext)))
def mb_law_draws : En → Option Fl :=
    (mSeq
    (mAsg (mLst mNil) (gB 3))
    (mSeq
    (mAsg (mBin dMul (mVar 0) (mCB bInt (mCons (mBin dGe (mVar 0) (mBin dPow (mC (.int 10)) (mC (.int 18)))) mNil))) (gB 4))
    (mSeq
    (mAsg (mBin dMod (mVar 0) (mC (.int 2305843009213693951))) (gB 5))
    (mSeq
    (mFor (mRng rng1 (mCons (mBin dAdd (mVar 1) (mC (.int 3))) mNil)) (gB 6) lb1_law_draws)
    (mRet (mVar 3))))))
def fm_law_draws : List PyData → Option PyData := runB 7 mb_law_draws
theorem ok_law_draws {P : Program} {w : World} {K : PySem.W.Frag} {mg : Str → Option Value} {base : Heap} (T : Txt K mg w)  : FnOk P w K mg base CX0 1 T.f_law_draws T.fd_law_draws ["cell", "many", "base"] (spD K 3 fm_law_draws) := by
  have F := defF_fam (P := P) (w := w) (K := K) (mg := mg) (base := base) (qual := "_law_draws") (sc := defScope s_law_draws) (f := T.f_law_draws) (j := 0) sc_law_draws.nd
  have hS := fun i => (rfl : (defF P w K mg base ["cell", "many", "base", "found", "rest", "stirred", "k"] "_law_draws" (defScope s_law_draws) T.f_law_draws 0 i).env.scope = defScope s_law_draws)
  exact fn_data (M := [3]) T.F_law_draws sc_law_draws (by decide)
      (ss_cons
      (s_own F 3 f_nil)
      (ss_cons
      (s_set F 4 (d_op (fun _ => op_mulA) opd_mul (q_of (d_var 0)) (q_of (d_ty (fun _ => call_int1) crd_int (fun _ => T.n_int) (by decide +kernel) (b_cons (q_of (d_cmp (fun _ => op_ge) opd_ge (q_of (d_var 0)) (q_of (d_op (fun _ => op_pow) opd_pow (q_of d_int) (q_of d_int))))) b_nil)))))
      (ss_cons
      (s_set F 5 (d_op (fun _ => op_mod) opd_mod (q_of (d_var 0)) (q_of d_int)))
      (ss_cons
      (s_for F (fun _ => PassesOwn.never) (i_range1 (fun _ => T.n_range) (a_cons (d_op (fun i => op_adds (F.hK i)) opd_add (q_of (d_var 1)) (q_of d_int)) a_nil)) (g_name F 6) (ss_cons
      (s_set F 5 (d_op (fun _ => op_mod) opd_mod (q_of (d_op (fun i => op_adds (F.hK i)) opd_add (q_of (d_op (fun i => op_adds (F.hK i)) opd_add (q_of (d_op (fun i => op_adds (F.hK i)) opd_add (q_of (d_op (fun _ => op_mulA) opd_mul (q_of (d_var 5)) (q_of (d_var 5)))) (q_of (d_op (fun _ => op_mulA) opd_mul (q_of d_int) (q_of (d_var 5)))))) (q_of (d_var 6)))) (q_of d_int))) (q_of d_int)))
      (ss_one
      (s_if (w_pt (w_and (t_cmp (fun _ => op_gt) opd_gt (q_of (d_var 6)) (q_of d_int)) (w_and1 (t_cmp (fun _ => op_gt) opd_gt (q_of (d_var 4)) (q_of d_int))))) (ss_cons
      (have hE := (d_op (fun _ => op_mod) opd_mod (q_of (d_var 4)) (q_of (d_var 2))); s_app F 3 hE (by decide) (fun j => ps_expr (pe_bm PySem.F.plainAttrs_list PySem.F.slot_list_append PySem.F.type_list_append mt_append (pv 3) (pa_cons (hE.pe j) pa_nil))))
      (ss_one
      (s_set F 4 (d_op (fun _ => op_fdivW) opd_div (q_of (d_var 4)) (q_of (d_var 2)))))) (ss_one
      (s_if (t_cmp (fun _ => op_gt) opd_gt (q_of (d_var 6)) (q_of d_int)) (ss_one
      (have hE := (d_op (fun _ => op_mod) opd_mod (q_of (d_op (fun _ => op_fdivW) opd_div (q_of (d_var 5)) (q_of d_int))) (q_of (d_var 2))); s_app F 3 hE (by decide) (fun j => ps_expr (pe_bm PySem.F.plainAttrs_list PySem.F.slot_list_append PySem.F.type_list_append mt_append (pv 3) (pa_cons (hE.pe j) pa_nil))))) ss_nil))))))
      (ss_one
      (s_retO 3))))))

/-! law_name, level 1 -/
theorem sc_law_name : FnScope ["some", "taken", "letters", "size", "word", "k", "barred", "ways", "letter", "one"] ["some", "taken"] (defScope s_law_name) := ⟨rfl, rfl, rfl, by decide +kernel, rfl, by decide +kernel, by decide +kernel⟩
def lt1_law_name : En → Option Bool :=
    (mAndT (mTst (mBin (dIn true) (mVar 9) (mVar 1))) (mTst (mBin (dIn true) (mVar 9) (mSplit (mVar 6) (mC (.str " "))))))
def le1_law_name : En → Option PyData :=
    (mVar 9)
def le2_law_name : En → Option PyData :=
    (mBin dAdd (mBin dAdd (mSl (mVar 4) mNoPart (mPart (mC (.int 6)))) (mVar 8)) (mC (.str "z")))
def lb1_law_name : En → Option Fl :=
    (mSeq
    (mAsg (mBin dAdd (mVar 4) (mBin dIx (mVar 2) (mBin dMod (mVar 3) (mC (.int 26))))) (gB 4))
    (mAsg (mBin dDiv (mVar 3) (mC (.int 26))) (gB 3)))
def mb_law_name : En → Option Fl :=
    (mSeq
    (mAsg (mC (.str "abcdefghijklmnopqrstuvwxyz")) (gB 2))
    (mSeq
    (mAsg (mBin dAdd (mBin dMul (mBin dAdd (mBin dMul (mBin dAdd (mBin dMul (mBin dIx (mVar 0) (mC (.int 1))) (mC (.int 1000))) (mBin dIx (mVar 0) (mC (.int 2)))) (mC (.int 1000))) (mBin dIx (mVar 0) (mC (.int 3)))) (mC (.int 1000))) (mBin dIx (mVar 0) (mC (.int 4)))) (gB 3))
    (mSeq
    (mAsg (mC (.str "")) (gB 4))
    (mSeq
    (mFor (mRng rng1 (mCons (mBin dAdd (mC (.int 1)) (mBin dMod (mBin dIx (mVar 0) (mC (.int 0))) (mC (.int 8)))) mNil)) (gB 5) lb1_law_name)
    (mSeq
    (mAsg (mC (.str "rows view where keep named pairs both less count seal and or not mine empty loud yes has")) (gB 6))
    (mSeq
    (mAsg (mBin dAdd (mLst (mCons (mVar 4) mNil)) (mLc [8] (mIt (mVar 2)) (gB 8) mYes le2_law_name)) (gB 7))
    (mRet (mBin dIx (mLc [9] (mIt (mVar 7)) (gB 9) lt1_law_name le1_law_name) (mC (.int 0))))))))))
def fm_law_name : List PyData → Option PyData := runB 10 mb_law_name
theorem ok_law_name {P : Program} {w : World} {K : PySem.W.Frag} {mg : Str → Option Value} {base : Heap} (T : Txt K mg w)  : FnOk P w K mg base CX0 1 T.f_law_name T.fd_law_name ["some", "taken"] (spD K 2 fm_law_name) := by
  have F := defF_fam (P := P) (w := w) (K := K) (mg := mg) (base := base) (qual := "_law_name") (sc := defScope s_law_name) (f := T.f_law_name) (j := 0) sc_law_name.nd
  have hS := fun i => (rfl : (defF P w K mg base ["some", "taken", "letters", "size", "word", "k", "barred", "ways", "letter", "one"] "_law_name" (defScope s_law_name) T.f_law_name 0 i).env.scope = defScope s_law_name)
  exact fn_data (M := []) T.F_law_name sc_law_name (by decide)
      (ss_cons
      (s_set F 2 d_str)
      (ss_cons
      (s_set F 3 (d_op (fun i => op_adds (F.hK i)) opd_add (q_of (d_op (fun _ => op_mulA) opd_mul (q_of (d_op (fun i => op_adds (F.hK i)) opd_add (q_of (d_op (fun _ => op_mulA) opd_mul (q_of (d_op (fun i => op_adds (F.hK i)) opd_add (q_of (d_op (fun _ => op_mulA) opd_mul (q_of (d_ix (fun i => ix_seqK (F.hK i)) opd_ix (q_of (d_var 0)) (q_of d_int))) (q_of d_int))) (q_of (d_ix (fun i => ix_seqK (F.hK i)) opd_ix (q_of (d_var 0)) (q_of d_int))))) (q_of d_int))) (q_of (d_ix (fun i => ix_seqK (F.hK i)) opd_ix (q_of (d_var 0)) (q_of d_int))))) (q_of d_int))) (q_of (d_ix (fun i => ix_seqK (F.hK i)) opd_ix (q_of (d_var 0)) (q_of d_int)))))
      (ss_cons
      (s_set F 4 d_str)
      (ss_cons
      (s_for F (fun _ => PassesOwn.never) (i_range1 (fun _ => T.n_range) (a_cons (d_op (fun i => op_adds (F.hK i)) opd_add (q_of d_int) (q_of (d_op (fun _ => op_mod) opd_mod (q_of (d_ix (fun i => ix_seqK (F.hK i)) opd_ix (q_of (d_var 0)) (q_of d_int))) (q_of d_int)))) a_nil)) (g_name F 5) (ss_cons
      (s_set F 4 (d_op (fun i => op_adds (F.hK i)) opd_add (q_of (d_var 4)) (q_of (d_ix (fun i => ix_seqK (F.hK i)) opd_ix (q_of (d_var 2)) (q_of (d_op (fun _ => op_mod) opd_mod (q_of (d_var 3)) (q_of d_int)))))))
      (ss_one
      (s_set F 3 (d_op (fun _ => op_fdivW) opd_div (q_of (d_var 3)) (q_of d_int))))))
      (ss_cons
      (s_set F 6 d_str)
      (ss_cons
      (s_set F 7 (d_op (fun i => op_adds (F.hK i)) opd_add (q_of (d_lst (a_cons (d_var 4) a_nil))) (q_of (d_lc F [("letter", 8)] (i_weak (i_seq F (d_var 2))) hS (blkOk_by (by decide +kernel)) (g_name (F.blk _) 8) gk_name ts_nil (d_op (fun i => op_adds ((F.blk _).hK i)) opd_add (q_of (d_op (fun i => op_adds ((F.blk _).hK i)) opd_add (q_of (d_sl (F.blk _) (q_of (d_var 4)) o_none (o_some d_int))) (q_of (d_var 8)))) (q_of d_str))))))
      (ss_one
      (s_ret (d_ix (fun i => ix_seqK (F.hK i)) opd_ix (q_of (d_lc F [("one", 9)] (i_weak (i_seq F (d_var 7))) hS (blkOk_by (by decide +kernel)) (g_name (F.blk _) 9) gk_name (ts_one (w_pt (w_and (t_cmp (fun i => op_notIns ((F.blk _).hK i) ((F.blk _).u65 i)) (opd_in true) (q_of (d_var 9)) (q_of (d_var 1))) (w_and1 (t_cmp (fun i => op_notIns ((F.blk _).hK i) ((F.blk _).u65 i)) (opd_in true) (q_of (d_var 9)) (q_of (d_split (d_var 6) d_str))))))) (d_var 9))) (q_of d_int))))))))))

/-! law_atom, level 1 -/
theorem sc_law_atom : FnScope ["picks", "columns", "ways", "words", "word", "column", "value"] ["picks", "columns", "ways"] (defScope s_law_atom) := ⟨rfl, rfl, rfl, by decide +kernel, rfl, by decide +kernel, by decide +kernel⟩
def mb_law_atom : En → Option Fl :=
    (mSeq
    (mAsg (mBin dAdd (mLst (mCons (mC (.str "is")) (mCons (mC (.str "below")) (mCons (mC (.str "same")) (mCons (mC (.str "empty")) (mCons (mC (.str "is")) (mCons (mC (.str "below")) (mCons (mC (.str "yes")) mNil)))))))) (mRep (mCons (mC (.str "mine")) mNil) (mCount (mVar 2) (mC (.str "m"))))) (gB 3))
    (mSeq
    (mAsg (mBin dAdd (mVar 3) (mRep (mCons (mC (.str "loud")) (mCons (mC (.str "loud")) (mCons (mC (.str "loud")) mNil))) (mCount (mVar 2) (mC (.str "l"))))) (gB 3))
    (mSeq
    (mAsg (mBin dIx (mVar 3) (mBin dMod (mBin dIx (mVar 0) (mC (.int 0))) (mCB bLen (mCons (mVar 3) mNil)))) (gB 4))
    (mSeq
    (mAsg (mBin dIx (mVar 1) (mBin dMod (mBin dIx (mVar 0) (mC (.int 1))) (mCB bLen (mCons (mVar 1) mNil)))) (gB 5))
    (mSeq
    (mIfS (mTst (mBin dEq (mVar 4) (mC (.str "yes")))) (mRet (mTup (mCons (mVar 4) mNil))) mNext)
    (mSeq
    (mIfS (mTst (mBin dEq (mVar 4) (mC (.str "same")))) (mRet (mTup (mCons (mVar 4) (mCons (mVar 5) (mCons (mBin dIx (mVar 1) (mBin dMod (mBin dIx (mVar 0) (mC (.int 2))) (mCB bLen (mCons (mVar 1) mNil)))) mNil))))) mNext)
    (mSeq
    (mIfS (mTst (mBin (dIn false) (mVar 4) (mTup (mCons (mC (.str "is")) (mCons (mC (.str "below")) mNil))))) (mSeq
    (mAsg (mBin dIx (mLst (mCons (mBin dMod (mBin dIx (mVar 0) (mC (.int 3))) (mC (.int 3))) (mCons (mBin dMod (mBin dIx (mVar 0) (mC (.int 3))) (mC (.int 10))) mNil))) (mBin dMod (mBin dIx (mVar 0) (mC (.int 4))) (mC (.int 2)))) (gB 6))
    (mRet (mTup (mCons (mVar 4) (mCons (mVar 5) (mCons (mBin dAdd (mVar 6) (mCB bInt (mCons (mAnd (mBin dEq (mVar 4) (mC (.str "below"))) (mBin dEq (mBin dMod (mBin dIx (mVar 0) (mC (.int 5))) (mC (.int 2))) (mC (.int 0)))) mNil))) mNil)))))) mNext)
    (mRet (mTup (mCons (mVar 4) (mCons (mVar 5) mNil)))))))))))
def fm_law_atom : List PyData → Option PyData := runB 7 mb_law_atom
theorem ok_law_atom {P : Program} {w : World} {K : PySem.W.Frag} {mg : Str → Option Value} {base : Heap} (T : Txt K mg w)  : FnOk P w K mg base CX0 1 T.f_law_atom T.fd_law_atom ["picks", "columns", "ways"] (spD K 3 fm_law_atom) := by
  have F := defF_fam (P := P) (w := w) (K := K) (mg := mg) (base := base) (qual := "_law_atom") (sc := defScope s_law_atom) (f := T.f_law_atom) (j := 0) sc_law_atom.nd
  have hS := fun i => (rfl : (defF P w K mg base ["picks", "columns", "ways", "words", "word", "column", "value"] "_law_atom" (defScope s_law_atom) T.f_law_atom 0 i).env.scope = defScope s_law_atom)
  exact fn_data (M := []) T.F_law_atom sc_law_atom (by decide)
      (ss_cons
      (s_set F 3 (d_op (fun i => op_adds (F.hK i)) opd_add (q_of (d_lst (a_cons d_str (a_cons d_str (a_cons d_str (a_cons d_str (a_cons d_str (a_cons d_str (a_cons d_str a_nil))))))))) (q_of (d_rep (a_cons d_str a_nil) (d_count (d_var 2) d_str)))))
      (ss_cons
      (s_set F 3 (d_op (fun i => op_adds (F.hK i)) opd_add (q_of (d_var 3)) (q_of (d_rep (a_cons d_str (a_cons d_str (a_cons d_str a_nil))) (d_count (d_var 2) d_str)))))
      (ss_cons
      (s_set F 4 (d_ix (fun i => ix_seqK (F.hK i)) opd_ix (q_of (d_var 3)) (q_of (d_op (fun _ => op_mod) opd_mod (q_of (d_ix (fun i => ix_seqK (F.hK i)) opd_ix (q_of (d_var 0)) (q_of d_int))) (q_of (d_cb (fun i => cr_len (F.hK i)) crd_len (fun _ => T.n_len) (by decide +kernel) (b_cons (q_of (d_var 3)) b_nil)))))))
      (ss_cons
      (s_set F 5 (d_ix (fun i => ix_seqK (F.hK i)) opd_ix (q_of (d_var 1)) (q_of (d_op (fun _ => op_mod) opd_mod (q_of (d_ix (fun i => ix_seqK (F.hK i)) opd_ix (q_of (d_var 0)) (q_of d_int))) (q_of (d_cb (fun i => cr_len (F.hK i)) crd_len (fun _ => T.n_len) (by decide +kernel) (b_cons (q_of (d_var 1)) b_nil)))))))
      (ss_cons
      (s_if (t_cmp (fun i => op_eqK (F.hK i) (F.u64 i)) opd_eq (q_of (d_var 4)) (q_of d_str)) (ss_one
      (s_ret (d_tup (a_cons (d_var 4) a_nil)))) ss_nil)
      (ss_cons
      (s_if (t_cmp (fun i => op_eqK (F.hK i) (F.u64 i)) opd_eq (q_of (d_var 4)) (q_of d_str)) (ss_one
      (s_ret (d_tup (a_cons (d_var 4) (a_cons (d_var 5) (a_cons (d_ix (fun i => ix_seqK (F.hK i)) opd_ix (q_of (d_var 1)) (q_of (d_op (fun _ => op_mod) opd_mod (q_of (d_ix (fun i => ix_seqK (F.hK i)) opd_ix (q_of (d_var 0)) (q_of d_int))) (q_of (d_cb (fun i => cr_len (F.hK i)) crd_len (fun _ => T.n_len) (by decide +kernel) (b_cons (q_of (d_var 1)) b_nil)))))) a_nil)))))) ss_nil)
      (ss_cons
      (s_if (t_cmp (fun i => op_ins (F.hK i) (F.u65 i)) (opd_in false) (q_of (d_var 4)) (q_of (d_tup (a_cons d_str (a_cons d_str a_nil))))) (ss_cons
      (s_set F 6 (d_ix (fun i => ix_seqK (F.hK i)) opd_ix (q_of (d_lst (a_cons (d_op (fun _ => op_mod) opd_mod (q_of (d_ix (fun i => ix_seqK (F.hK i)) opd_ix (q_of (d_var 0)) (q_of d_int))) (q_of d_int)) (a_cons (d_op (fun _ => op_mod) opd_mod (q_of (d_ix (fun i => ix_seqK (F.hK i)) opd_ix (q_of (d_var 0)) (q_of d_int))) (q_of d_int)) a_nil)))) (q_of (d_op (fun _ => op_mod) opd_mod (q_of (d_ix (fun i => ix_seqK (F.hK i)) opd_ix (q_of (d_var 0)) (q_of d_int))) (q_of d_int)))))
      (ss_one
      (s_ret (d_tup (a_cons (d_var 4) (a_cons (d_var 5) (a_cons (d_op (fun i => op_adds (F.hK i)) opd_add (q_of (d_var 6)) (q_of (d_ty (fun _ => call_int1) crd_int (fun _ => T.n_int) (by decide +kernel) (b_cons (q_of (d_and F (d_cmp (fun i => op_eqK (F.hK i) (F.u64 i)) opd_eq (q_of (d_var 4)) (q_of d_str)) (d_one (d_cmp (fun i => op_eqK (F.hK i) (F.u64 i)) opd_eq (q_of (d_op (fun _ => op_mod) opd_mod (q_of (d_ix (fun i => ix_seqK (F.hK i)) opd_ix (q_of (d_var 0)) (q_of d_int))) (q_of d_int))) (q_of d_int))))) b_nil)))) a_nil))))))) ss_nil)
      (ss_one
      (s_ret (d_tup (a_cons (d_var 4) (a_cons (d_var 5) a_nil))))))))))))

/-! law_odd, level 1 -/
theorem sc_law_odd : FnScope ["picks", "odd"] ["picks"] (defScope s_law_odd) := ⟨rfl, rfl, rfl, by decide +kernel, rfl, by decide +kernel, by decide +kernel⟩
def mb_law_odd : En → Option Fl :=
    (mSeq
    (mAsg (mLst (mCons (mC .none) (mCons (mC (.bool true)) (mCons (mC (.bool false)) (mCons (mUn dNeg (mC (.int 1))) (mCons (mC (.int 0)) (mCons (mC (.int 1)) (mCons (mC (.int 2)) (mCons (mC (.int 8)) (mCons (mC (.int 9)) (mCons (mC (.int 10)) (mCons (mBin dPow (mC (.int 10)) (mC (.int 25))) (mCons (mC (.str "")) (mCons (mC (.str "a")) (mCons (mC (.str "ab")) (mCons (mC (.str "zzzzzzzz")) (mCons (mC (.str "zzzzzzzzz")) (mCons (mC (.str "Ab")) (mCons (mC (.str "a1")) mNil))))))))))))))))))) (gB 1))
    (mSeq
    (mAsg (mBin dAdd (mVar 1) (mLst (mCons (mC (.str "rows")) (mCons (mC (.str "seal")) (mCons (mC (.str "not")) (mCons (mC (.str "has")) (mCons (mC (.str "a b")) (mCons (mC (.str " a")) (mCons (mC (.str "a\n")) (mCons (mTup mNil) (mCons (mLst mNil) (mCons (mTup (mCons (mC (.str "a")) mNil)) (mCons (mLst (mCons (mC (.str "a")) mNil)) (mCons (mTup (mCons (mC (.int 1)) (mCons (mC (.int 2)) mNil))) (mCons (mTup (mCons (mC (.str "yes")) mNil)) (mCons (mTup (mCons (mC (.bool true)) mNil)) mNil)))))))))))))))) (gB 1))
    (mSeq
    (mAsg (mBin dAdd (mVar 1) (mLst (mCons (mTup (mCons (mC (.str "rows")) (mCons (mC (.str "a")) mNil))) (mCons (mTup (mCons (mC (.str "view")) (mCons (mC (.str "a")) mNil))) (mCons (mC (.str "yes")) (mCons (mC (.str "read")) (mCons (mC (.str "must")) (mCons (mC (.str "own")) (mCons (mC (.str "asker")) (mCons (mUn dNeg (mC (.int 2))) (mCons (mC (.int 3)) (mCons (mC (.int 11)) (mCons (mTup (mCons (mC .none) mNil)) (mCons (mTup (mCons (mTup mNil) mNil)) mNil)))))))))))))) (gB 1))
    (mRet (mBin dIx (mVar 1) (mBin dMod (mBin dAdd (mBin dIx (mVar 0) (mC (.int 0))) (mBin dMul (mC (.int 7)) (mBin dIx (mVar 0) (mC (.int 1))))) (mCB bLen (mCons (mVar 1) mNil))))))))
def fm_law_odd : List PyData → Option PyData := runB 2 mb_law_odd
theorem ok_law_odd {P : Program} {w : World} {K : PySem.W.Frag} {mg : Str → Option Value} {base : Heap} (T : Txt K mg w)  : FnOk P w K mg base CX0 1 T.f_law_odd T.fd_law_odd ["picks"] (spD K 1 fm_law_odd) := by
  have F := defF_fam (P := P) (w := w) (K := K) (mg := mg) (base := base) (qual := "_law_odd") (sc := defScope s_law_odd) (f := T.f_law_odd) (j := 0) sc_law_odd.nd
  have hS := fun i => (rfl : (defF P w K mg base ["picks", "odd"] "_law_odd" (defScope s_law_odd) T.f_law_odd 0 i).env.scope = defScope s_law_odd)
  exact fn_data (M := []) T.F_law_odd sc_law_odd (by decide)
      (ss_cons
      (s_set F 1 (d_lst (a_cons d_non (a_cons d_bl (a_cons d_bl (a_cons (d_neg d_int) (a_cons d_int (a_cons d_int (a_cons d_int (a_cons d_int (a_cons d_int (a_cons d_int (a_cons (d_op (fun _ => op_pow) opd_pow (q_of d_int) (q_of d_int)) (a_cons d_str (a_cons d_str (a_cons d_str (a_cons d_str (a_cons d_str (a_cons d_str (a_cons d_str a_nil))))))))))))))))))))
      (ss_cons
      (s_set F 1 (d_op (fun i => op_adds (F.hK i)) opd_add (q_of (d_var 1)) (q_of (d_lst (a_cons d_str (a_cons d_str (a_cons d_str (a_cons d_str (a_cons d_str (a_cons d_str (a_cons d_str (a_cons (d_tup a_nil) (a_cons (d_lst a_nil) (a_cons (d_tup (a_cons d_str a_nil)) (a_cons (d_lst (a_cons d_str a_nil)) (a_cons (d_tup (a_cons d_int (a_cons d_int a_nil))) (a_cons (d_tup (a_cons d_str a_nil)) (a_cons (d_tup (a_cons d_bl a_nil)) a_nil))))))))))))))))))
      (ss_cons
      (s_set F 1 (d_op (fun i => op_adds (F.hK i)) opd_add (q_of (d_var 1)) (q_of (d_lst (a_cons (d_tup (a_cons d_str (a_cons d_str a_nil))) (a_cons (d_tup (a_cons d_str (a_cons d_str a_nil))) (a_cons d_str (a_cons d_str (a_cons d_str (a_cons d_str (a_cons d_str (a_cons (d_neg d_int) (a_cons d_int (a_cons d_int (a_cons (d_tup (a_cons d_non a_nil)) (a_cons (d_tup (a_cons (d_tup a_nil) a_nil)) a_nil))))))))))))))))
      (ss_one
      (s_ret (d_ix (fun i => ix_seqK (F.hK i)) opd_ix (q_of (d_var 1)) (q_of (d_op (fun _ => op_mod) opd_mod (q_of (d_op (fun i => op_adds (F.hK i)) opd_add (q_of (d_ix (fun i => ix_seqK (F.hK i)) opd_ix (q_of (d_var 0)) (q_of d_int))) (q_of (d_op (fun _ => op_mulA) opd_mul (q_of d_int) (q_of (d_ix (fun i => ix_seqK (F.hK i)) opd_ix (q_of (d_var 0)) (q_of d_int))))))) (q_of (d_cb (fun i => cr_len (F.hK i)) crd_len (fun _ => T.n_len) (by decide +kernel) (b_cons (q_of (d_var 1)) b_nil)))))))))))

/-! law_from, level 1 -/
theorem sc_law_from : FnScope ["thing", "least", "top"] ["thing", "least", "top"] (defScope s_law_from) := ⟨rfl, rfl, rfl, by decide +kernel, rfl, by decide +kernel, by decide +kernel⟩
def mb_law_from : En → Option Fl :=
    (mRet (mAnd (mIsi (isiD "int") (mVar 0)) (mAnd (mNot (mIsi (isiD "bool") (mVar 0))) (mAnd (mBin dLe (mVar 1) (mVar 0)) (mBin dLe (mVar 0) (mVar 2))))))
def fm_law_from : List PyData → Option PyData := runB 3 mb_law_from
theorem ok_law_from {P : Program} {w : World} {K : PySem.W.Frag} {mg : Str → Option Value} {base : Heap} (T : Txt K mg w)  : FnOk P w K mg base CX0 1 T.f_law_from T.fd_law_from ["thing", "least", "top"] (spD K 3 fm_law_from) := by
  have F := defF_fam (P := P) (w := w) (K := K) (mg := mg) (base := base) (qual := "_law_from") (sc := defScope s_law_from) (f := T.f_law_from) (j := 0) sc_law_from.nd
  have hS := fun i => (rfl : (defF P w K mg base ["thing", "least", "top"] "_law_from" (defScope s_law_from) T.f_law_from 0 i).env.scope = defScope s_law_from)
  exact fn_data (M := []) T.F_law_from sc_law_from (by decide)
      (ss_one
      (s_ret (d_and F (d_isi F "int" (q_of (d_var 0)) (fun _ => T.n_isinstance) (fun _ => T.n_int) isiT_int (by decide +kernel)) (d_and F (d_not F (q_of (d_isi F "bool" (q_of (d_var 0)) (fun _ => T.n_isinstance) (fun _ => T.n_bool) isiT_bool (by decide +kernel)))) (d_and F (d_cmp (fun _ => op_le) opd_le (q_of (d_var 1)) (q_of (d_var 0))) (d_one (d_cmp (fun _ => op_le) opd_le (q_of (d_var 0)) (q_of (d_var 2)))))))))

/-! law_names_of, level 1 -/
theorem sc_law_names_of : FnScope ["ground", "name", "table", "column"] ["ground", "name"] (defScope s_law_names_of) := ⟨rfl, rfl, rfl, by decide +kernel, rfl, by decide +kernel, by decide +kernel⟩
def le1_law_names_of : En → Option PyData :=
    (mBin dIx (mVar 3) (mC (.int 0)))
def lb1_law_names_of : En → Option Fl :=
    (mIfS (mAndT (mTru (mIsi (isiD "str") (mVar 1))) (mTst (mBin dEq (mBin dIx (mVar 2) (mC (.int 0))) (mVar 1)))) (mRet (mCB bTuple (mCons (mLc [3] (mIt (mBin dIx (mVar 2) (mC (.int 2)))) (gB 3) mYes le1_law_names_of) mNil))) mNext)
def mb_law_names_of : En → Option Fl :=
    (mSeq
    (mFor (mIt (mVar 0)) (gB 2) lb1_law_names_of)
    (mRet (mC .none)))
def fm_law_names_of : List PyData → Option PyData := runB 4 mb_law_names_of
theorem ok_law_names_of {P : Program} {w : World} {K : PySem.W.Frag} {mg : Str → Option Value} {base : Heap} (T : Txt K mg w)  : FnOk P w K mg base CX0 1 T.f_law_names_of T.fd_law_names_of ["ground", "name"] (spD K 2 fm_law_names_of) := by
  have F := defF_fam (P := P) (w := w) (K := K) (mg := mg) (base := base) (qual := "_law_names_of") (sc := defScope s_law_names_of) (f := T.f_law_names_of) (j := 0) sc_law_names_of.nd
  have hS := fun i => (rfl : (defF P w K mg base ["ground", "name", "table", "column"] "_law_names_of" (defScope s_law_names_of) T.f_law_names_of 0 i).env.scope = defScope s_law_names_of)
  exact fn_data (M := []) T.F_law_names_of sc_law_names_of (by decide)
      (ss_cons
      (s_for F (fun _ => PassesOwn.never) (i_seq F (d_var 0)) (g_name F 2) (ss_one
      (s_if (w_pt (w_and (t_tru F (q_of (d_isi F "str" (q_of (d_var 1)) (fun _ => T.n_isinstance) (fun _ => T.n_str) isiT_str (by decide +kernel)))) (w_and1 (t_cmp (fun i => op_eqK (F.hK i) (F.u64 i)) opd_eq (q_of (d_ix (fun i => ix_seqK (F.hK i)) opd_ix (q_of (d_var 2)) (q_of d_int))) (q_of (d_var 1)))))) (ss_one
      (s_ret (d_ty (fun i => cr_tuple (F.hK i)) crd_tuple (fun _ => T.n_tuple) (by decide +kernel) (b_cons (q_of (d_lc F [("column", 3)] (i_weak (i_seq F (d_ix (fun i => ix_seqK (F.hK i)) opd_ix (q_of (d_var 2)) (q_of d_int)))) hS (blkOk_by (by decide +kernel)) (g_name (F.blk _) 3) gk_name ts_nil (d_ix (fun i => ix_seqK ((F.blk _).hK i)) opd_ix (q_of (d_var 3)) (q_of d_int)))) b_nil)))) ss_nil)))
      (ss_one
      (s_ret d_non)))

/-! is_whole_within, level 2 -/
theorem sc_is_whole_within : FnScope ["thing", "least", "most"] ["thing", "least", "most"] (defScope s_is_whole_within) := ⟨rfl, rfl, rfl, by decide +kernel, rfl, by decide +kernel, by decide +kernel⟩
def mb_is_whole_within : En → Option Fl :=
    (mRet (mAnd (mCB fm_is_whole (mCons (mVar 0) mNil)) (mChain dLe dLe (mVar 1) (mVar 0) (mVar 2))))
def fm_is_whole_within : List PyData → Option PyData := runB 3 mb_is_whole_within
theorem ok_is_whole_within {P : Program} {w : World} {K : PySem.W.Frag} {mg : Str → Option Value} {base : Heap} (T : Txt K mg w) (G_is_whole : FnOk P w K mg base CX0 1 T.f_is_whole T.fd_is_whole ["thing"] (spD K 1 fm_is_whole)) : FnOk P w K mg base CX0 2 T.f_is_whole_within T.fd_is_whole_within ["thing", "least", "most"] (spD K 3 fm_is_whole_within) := by
  have F := defF_fam (P := P) (w := w) (K := K) (mg := mg) (base := base) (qual := "is_whole_within") (sc := defScope s_is_whole_within) (f := T.f_is_whole_within) (j := 1) sc_is_whole_within.nd
  have hS := fun i => (rfl : (defF P w K mg base ["thing", "least", "most"] "is_whole_within" (defScope s_is_whole_within) T.f_is_whole_within 1 i).env.scope = defScope s_is_whole_within)
  exact fn_data (M := []) T.F_is_whole_within sc_is_whole_within (by decide)
      (ss_one
      (s_ret (d_and F (d_call (fun _ => G_is_whole) (fun i => (F.room i).mono (by omega)) (fun _ => T.g_is_whole) (fun _ => T.k_is_whole) (fun _ => T.b_is_whole) (a_cons (d_var 0) a_nil) (len_cons len_nil)) (d_one (d_chain (fun _ => op_le) opd_le (fun _ => op_le) opd_le (q_of (d_var 1)) (q_of (d_var 0)) (q_of (d_var 2)))))))

/-! has_form, level 2 -/
theorem sc_has_form : FnScope ["thing", "word"] ["thing"] (defScope s_has_form) := ⟨rfl, rfl, rfl, by decide +kernel, rfl, by decide +kernel, by decide +kernel⟩
def mb_has_form : En → Option Fl :=
    (mSeq
    (mAsg (mCB fm_word_of (mCons (mVar 0) mNil)) (gB 1))
    (mRet (mAnd (mUn (inTab tab_FORMS) (mVar 1)) (mBin dEq (mCB bLen (mCons (mVar 0) mNil)) (mBin dAdd (mC (.int 1)) (mCB bLen (mCons (mUn (getTab tab_FORMS) (mVar 1)) mNil)))))))
def fm_has_form : List PyData → Option PyData := runB 2 mb_has_form
theorem ok_has_form {P : Program} {w : World} {K : PySem.W.Frag} {mg : Str → Option Value} {base : Heap} (T : Txt K mg w) (G_word_of : FnOk P w K mg base CX0 1 T.f_word_of T.fd_word_of ["thing"] (spD K 1 fm_word_of)) : FnOk P w K mg base CX0 2 T.f_has_form T.fd_has_form ["thing"] (spD K 1 fm_has_form) := by
  have F := defF_fam (P := P) (w := w) (K := K) (mg := mg) (base := base) (qual := "has_form") (sc := defScope s_has_form) (f := T.f_has_form) (j := 1) sc_has_form.nd
  have hS := fun i => (rfl : (defF P w K mg base ["thing", "word"] "has_form" (defScope s_has_form) T.f_has_form 1 i).env.scope = defScope s_has_form)
  exact fn_data (M := []) T.F_has_form sc_has_form (by decide)
      (ss_cons
      (s_set F 1 (d_call (fun _ => G_word_of) (fun i => (F.room i).mono (by omega)) (fun _ => T.g_word_of) (fun _ => T.k_word_of) (fun _ => T.b_word_of) (a_cons (d_var 0) a_nil) (len_cons len_nil)))
      (ss_one
      (s_ret (d_and F (d_inK F T.kd_FORMS (d_var 1) (fun _ => pe_glob rfl T.mg_FORMS rfl)) (d_one (d_cmp (fun i => op_eqK (F.hK i) (F.u64 i)) opd_eq (q_of (d_cb (fun i => cr_len (F.hK i)) crd_len (fun _ => T.n_len) (by decide +kernel) (b_cons (q_of (d_var 0)) b_nil))) (q_of (d_op (fun i => op_adds (F.hK i)) opd_add (q_of d_int) (q_of (d_cb (fun i => cr_len (F.hK i)) crd_len (fun _ => T.n_len) (by decide +kernel) (b_cons (q_of (d_getK F T.kd_FORMS (d_var 1) (fun _ => pe_glob rfl T.mg_FORMS rfl))) b_nil)))))))))))

/-! names_table, level 2 -/
theorem sc_names_table : FnScope ["ground", "thing", "table"] ["ground", "thing"] (defScope s_names_table) := ⟨rfl, rfl, rfl, by decide +kernel, rfl, by decide +kernel, by decide +kernel⟩
def mb_names_table : En → Option Fl :=
    (mSeq
    (mAsg (mCB fm_find_table (mCons (mVar 0) (mCons (mBin dIx (mVar 1) (mC (.int 1))) mNil))) (gB 2))
    (mRet (mAnd (mBin (dIs true) (mVar 2) (mC .none)) (mBin (dIn false) (mBin dIx (mVar 1) (mC (.int 3))) (mCB fm_column_names (mCons (mVar 2) mNil))))))
def fm_names_table : List PyData → Option PyData := runB 3 mb_names_table
theorem ok_names_table {P : Program} {w : World} {K : PySem.W.Frag} {mg : Str → Option Value} {base : Heap} (T : Txt K mg w) (G_column_names : FnOk P w K mg base CX0 1 T.f_column_names T.fd_column_names ["table"] (spD K 1 fm_column_names)) (G_find_table : FnOk P w K mg base CX0 1 T.f_find_table T.fd_find_table ["ground", "name"] (spD K 2 fm_find_table)) : FnOk P w K mg base CX0 2 T.f_names_table T.fd_names_table ["ground", "thing"] (spD K 2 fm_names_table) := by
  have F := defF_fam (P := P) (w := w) (K := K) (mg := mg) (base := base) (qual := "names_table") (sc := defScope s_names_table) (f := T.f_names_table) (j := 1) sc_names_table.nd
  have hS := fun i => (rfl : (defF P w K mg base ["ground", "thing", "table"] "names_table" (defScope s_names_table) T.f_names_table 1 i).env.scope = defScope s_names_table)
  exact fn_data (M := []) T.F_names_table sc_names_table (by decide)
      (ss_cons
      (s_set F 2 (d_call (fun _ => G_find_table) (fun i => (F.room i).mono (by omega)) (fun _ => T.g_find_table) (fun _ => T.k_find_table) (fun _ => T.b_find_table) (a_cons (d_var 0) (a_cons (d_ix (fun i => ix_seqK (F.hK i)) opd_ix (q_of (d_var 1)) (q_of d_int)) a_nil)) (len_cons (len_cons len_nil))))
      (ss_one
      (s_ret (d_and F (d_cmp (fun _ => op_isNotB) (opd_is true) (q_of (d_var 2)) (q_of d_non)) (d_one (d_cmp (fun i => op_ins (F.hK i) (F.u65 i)) (opd_in false) (q_of (d_ix (fun i => ix_seqK (F.hK i)) opd_ix (q_of (d_var 1)) (q_of d_int))) (q_of (d_call (fun _ => G_column_names) (fun i => (F.room i).mono (by omega)) (fun _ => T.g_column_names) (fun _ => T.k_column_names) (fun _ => T.b_column_names) (a_cons (d_var 2) a_nil) (len_cons len_nil)))))))))

/-! parts_within, level 2 -/
theorem sc_parts_within : FnScope ["ground", "columns", "condition", "part"] ["ground", "columns", "condition"] (defScope s_parts_within) := ⟨rfl, rfl, rfl, by decide +kernel, rfl, by decide +kernel, by decide +kernel⟩
def le1_parts_within : En → Option PyData :=
    (mTup (mCons (mVar 1) (mCons (mVar 3) mNil)))
def mb_parts_within : En → Option Fl :=
    (mSeq
    (mIfS (mTst (mBin dEq (mBin dIx (mVar 2) (mC (.int 0))) (mC (.str "has")))) (mRet (mLst (mCons (mTup (mCons (mCB fm_column_names (mCons (mCB fm_find_table (mCons (mVar 0) (mCons (mBin dIx (mVar 2) (mC (.int 1))) mNil))) mNil)) (mCons (mBin dIx (mVar 2) (mC (.int 4))) mNil))) mNil))) mNext)
    (mRet (mLc [3] (mIt (mCB fm_conditions_here (mCons (mVar 2) mNil))) (gB 3) mYes le1_parts_within)))
def fm_parts_within : List PyData → Option PyData := runB 4 mb_parts_within
theorem ok_parts_within {P : Program} {w : World} {K : PySem.W.Frag} {mg : Str → Option Value} {base : Heap} (T : Txt K mg w) (G_conditions_here : FnOk P w K mg base CX0 1 T.f_conditions_here T.fd_conditions_here ["condition"] (spD K 1 fm_conditions_here)) (G_column_names : FnOk P w K mg base CX0 1 T.f_column_names T.fd_column_names ["table"] (spD K 1 fm_column_names)) (G_find_table : FnOk P w K mg base CX0 1 T.f_find_table T.fd_find_table ["ground", "name"] (spD K 2 fm_find_table)) : FnOk P w K mg base CX0 2 T.f_parts_within T.fd_parts_within ["ground", "columns", "condition"] (spD K 3 fm_parts_within) := by
  have F := defF_fam (P := P) (w := w) (K := K) (mg := mg) (base := base) (qual := "parts_within") (sc := defScope s_parts_within) (f := T.f_parts_within) (j := 1) sc_parts_within.nd
  have hS := fun i => (rfl : (defF P w K mg base ["ground", "columns", "condition", "part"] "parts_within" (defScope s_parts_within) T.f_parts_within 1 i).env.scope = defScope s_parts_within)
  exact fn_data (M := []) T.F_parts_within sc_parts_within (by decide)
      (ss_cons
      (s_if (t_cmp (fun i => op_eqK (F.hK i) (F.u64 i)) opd_eq (q_of (d_ix (fun i => ix_seqK (F.hK i)) opd_ix (q_of (d_var 2)) (q_of d_int))) (q_of d_str)) (ss_one
      (s_ret (d_lst (a_cons (d_tup (a_cons (d_call (fun _ => G_column_names) (fun i => (F.room i).mono (by omega)) (fun _ => T.g_column_names) (fun _ => T.k_column_names) (fun _ => T.b_column_names) (a_cons (d_call (fun _ => G_find_table) (fun i => (F.room i).mono (by omega)) (fun _ => T.g_find_table) (fun _ => T.k_find_table) (fun _ => T.b_find_table) (a_cons (d_var 0) (a_cons (d_ix (fun i => ix_seqK (F.hK i)) opd_ix (q_of (d_var 2)) (q_of d_int)) a_nil)) (len_cons (len_cons len_nil))) a_nil) (len_cons len_nil)) (a_cons (d_ix (fun i => ix_seqK (F.hK i)) opd_ix (q_of (d_var 2)) (q_of d_int)) a_nil))) a_nil)))) ss_nil)
      (ss_one
      (s_ret (d_lc F [("part", 3)] (i_weak (i_seq F (d_call (fun _ => G_conditions_here) (fun i => (F.room i).mono (by omega)) (fun _ => T.g_conditions_here) (fun _ => T.k_conditions_here) (fun _ => T.b_conditions_here) (a_cons (d_var 2) a_nil) (len_cons len_nil)))) hS (blkOk_by (by decide +kernel)) (g_name (F.blk _) 3) gk_name ts_nil (d_tup (a_cons (d_var 1) (a_cons (d_var 3) a_nil)))))))

/-! law_columns, level 2 -/
theorem sc_law_columns : FnScope ["picks", "many", "top", "found", "room", "k", "some", "values", "empty", "one"] ["picks", "many", "top"] (defScope s_law_columns) := ⟨rfl, rfl, rfl, by decide +kernel, rfl, by decide +kernel, by decide +kernel⟩
def le1_law_columns : En → Option PyData :=
    (mBin dIx (mVar 9) (mC (.int 0)))
def lb1_law_columns : En → Option Fl :=
    (mSeq
    (mAsg (mSl (mVar 0) (mPart (mBin dMul (mC (.int 7)) (mVar 5))) (mPart (mBin dAdd (mBin dMul (mC (.int 7)) (mVar 5)) (mC (.int 7))))) (gB 6))
    (mSeq
    (mAsg (mBin dAdd (mC (.int 1)) (mBin dMod (mBin dIx (mVar 6) (mC (.int 5))) (mCB bMin2 (mCons (mC (.int 10)) (mCons (mBin dDiv (mVar 2) (mVar 4)) mNil))))) (gB 7))
    (mSeq
    (mAsg (mOr (mBin dEq (mVar 7) (mC (.int 10))) (mAnd (mBin dGt (mVar 7) (mC (.int 1))) (mBin dEq (mBin dMod (mBin dIx (mVar 6) (mC (.int 6))) (mC (.int 3))) (mC (.int 0))))) (gB 8))
    (mSeq
    (mApp 3 (mTup (mCons (mCB fm_law_name (mCons (mVar 6) (mCons (mLc [9] (mIt (mVar 3)) (gB 9) mYes le1_law_columns) mNil))) (mCons (mBin dSub (mVar 7) (mCB bInt (mCons (mVar 8) mNil))) (mCons (mVar 8) mNil)))))
    (mAsg (mBin dMul (mVar 4) (mVar 7)) (gB 4))))))
def mb_law_columns : En → Option Fl :=
    (mSeq
    (mAsg (mLst mNil) (gB 3))
    (mSeq
    (mAsg (mC (.int 1)) (gB 4))
    (mSeq
    (mFor (mRng rng1 (mCons (mVar 1) mNil)) (gB 5) lb1_law_columns)
    (mRet (mTup (mCons (mCB bTuple (mCons (mVar 3) mNil)) (mCons (mVar 4) mNil)))))))
def fm_law_columns : List PyData → Option PyData := runB 10 mb_law_columns
theorem ok_law_columns {P : Program} {w : World} {K : PySem.W.Frag} {mg : Str → Option Value} {base : Heap} (T : Txt K mg w) (G_law_name : FnOk P w K mg base CX0 1 T.f_law_name T.fd_law_name ["some", "taken"] (spD K 2 fm_law_name)) : FnOk P w K mg base CX0 2 T.f_law_columns T.fd_law_columns ["picks", "many", "top"] (spD K 3 fm_law_columns) := by
  have F := defF_fam (P := P) (w := w) (K := K) (mg := mg) (base := base) (qual := "_law_columns") (sc := defScope s_law_columns) (f := T.f_law_columns) (j := 1) sc_law_columns.nd
  have hS := fun i => (rfl : (defF P w K mg base ["picks", "many", "top", "found", "room", "k", "some", "values", "empty", "one"] "_law_columns" (defScope s_law_columns) T.f_law_columns 1 i).env.scope = defScope s_law_columns)
  exact fn_data (M := [3]) T.F_law_columns sc_law_columns (by decide)
      (ss_cons
      (s_own F 3 f_nil)
      (ss_cons
      (s_set F 4 d_int)
      (ss_cons
      (s_for F (fun _ => PassesOwn.never) (i_range1 (fun _ => T.n_range) (a_cons (d_var 1) a_nil)) (g_name F 5) (ss_cons
      (s_set F 6 (d_sl F (q_of (d_var 0)) (o_some (d_op (fun _ => op_mulA) opd_mul (q_of d_int) (q_of (d_var 5)))) (o_some (d_op (fun i => op_adds (F.hK i)) opd_add (q_of (d_op (fun _ => op_mulA) opd_mul (q_of d_int) (q_of (d_var 5)))) (q_of d_int)))))
      (ss_cons
      (s_set F 7 (d_op (fun i => op_adds (F.hK i)) opd_add (q_of d_int) (q_of (d_op (fun _ => op_mod) opd_mod (q_of (d_ix (fun i => ix_seqK (F.hK i)) opd_ix (q_of (d_var 6)) (q_of d_int))) (q_of (d_cb (fun i => call_min2 (F.calm i)) crd_min2 (fun _ => T.n_min) (by decide +kernel) (b_cons (q_of d_int) (b_cons (q_of (d_op (fun _ => op_fdivW) opd_div (q_of (d_var 2)) (q_of (d_var 4)))) b_nil))))))))
      (ss_cons
      (s_set F 8 (d_or F (d_cmp (fun i => op_eqK (F.hK i) (F.u64 i)) opd_eq (q_of (d_var 7)) (q_of d_int)) (d_one (d_and F (d_cmp (fun _ => op_gt) opd_gt (q_of (d_var 7)) (q_of d_int)) (d_one (d_cmp (fun i => op_eqK (F.hK i) (F.u64 i)) opd_eq (q_of (d_op (fun _ => op_mod) opd_mod (q_of (d_ix (fun i => ix_seqK (F.hK i)) opd_ix (q_of (d_var 6)) (q_of d_int))) (q_of d_int))) (q_of d_int)))))))
      (ss_cons
      (have hE := (d_tup (a_cons (d_call (fun _ => G_law_name) (fun i => (F.room i).mono (by omega)) (fun _ => T.g_law_name) (fun _ => T.k_law_name) (fun _ => T.b_law_name) (a_cons (d_var 6) (a_cons (d_lc F [("one", 9)] (i_own F (q_var 3)) hS (blkOk_by (by decide +kernel)) (g_name (F.blk _) 9) gk_name ts_nil (d_ix (fun i => ix_seqK ((F.blk _).hK i)) opd_ix (q_of (d_var 9)) (q_of d_int))) a_nil)) (len_cons (len_cons len_nil))) (a_cons (d_op (fun _ => op_sub) opd_sub (q_of (d_var 7)) (q_of (d_ty (fun _ => call_int1) crd_int (fun _ => T.n_int) (by decide +kernel) (b_cons (q_of (d_var 8)) b_nil)))) (a_cons (d_var 8) a_nil)))); s_app F 3 hE (by decide) (fun j => ps_expr (pe_bm PySem.F.plainAttrs_list PySem.F.slot_list_append PySem.F.type_list_append mt_append (pv 3) (pa_cons (hE.pe j) pa_nil))))
      (ss_one
      (s_set F 4 (d_op (fun _ => op_mulA) opd_mul (q_of (d_var 4)) (q_of (d_var 7))))))))))
      (ss_one
      (s_ret (d_tup (a_cons (d_ty (fun i => cr_tuple (F.hK i)) crd_tuple (fun _ => T.n_tuple) (by decide +kernel) (b_cons (q_var 3) b_nil)) (a_cons (d_var 4) a_nil))))))))

/-! law_condition, level 2 -/
theorem sc_law_condition : FnScope ["picks", "parts", "ground", "columns", "ways", "words", "word", "left", "one", "table", "names", "inner", "column"] ["picks", "parts", "ground", "columns", "ways"] (defScope s_law_condition) := ⟨rfl, rfl, rfl, by decide +kernel, rfl, by decide +kernel, by decide +kernel⟩
def le1_law_condition (self : List PyData → Option PyData) : En → Option PyData :=
    (mBin dIx (mVar 12) (mC (.int 0)))
def mb_law_condition (self : List PyData → Option PyData) : En → Option Fl :=
    (mSeq
    (mIfS (mTst (mBin dLt (mVar 1) (mC (.int 2)))) (mRet (mCB fm_law_atom (mCons (mVar 0) (mCons (mVar 3) (mCons (mVar 4) mNil))))) mNext)
    (mSeq
    (mAsg (mBin dAdd (mBin dAdd (mLst (mCons (mC (.str "not")) mNil)) (mRep (mCons (mC (.str "and")) (mCons (mC (.str "or")) (mCons (mC (.str "and")) (mCons (mC (.str "or")) mNil)))) (mCB bInt (mCons (mBin dGt (mVar 1) (mC (.int 2))) mNil)))) (mRep (mCons (mC (.str "has")) mNil) (mCount (mVar 4) (mC (.str "h"))))) (gB 5))
    (mSeq
    (mAsg (mBin dIx (mVar 5) (mBin dMod (mBin dIx (mVar 0) (mC (.int 0))) (mCB bLen (mCons (mVar 5) mNil)))) (gB 6))
    (mSeq
    (mIfS (mTst (mBin dEq (mVar 6) (mC (.str "has")))) (mSeq
    (mAsg (mBin dIx (mVar 2) (mBin dMod (mBin dIx (mVar 0) (mC (.int 1))) (mCB bLen (mCons (mVar 2) mNil)))) (gB 9))
    (mSeq
    (mAsg (mLc [12] (mIt (mBin dIx (mVar 9) (mC (.int 2)))) (gB 12) mYes (le1_law_condition self)) (gB 10))
    (mSeq
    (mAsg (mCB self (mCons (mSl (mVar 0) (mPart (mC (.int 6))) mNoPart) (mCons (mBin dSub (mVar 1) (mC (.int 1))) (mCons (mVar 2) (mCons (mVar 10) (mCons (mRepl "h" "" (mVar 4)) mNil)))))) (gB 11))
    (mRet (mTup (mCons (mVar 6) (mCons (mBin dIx (mVar 9) (mC (.int 0))) (mCons (mBin dIx (mVar 3) (mBin dMod (mBin dIx (mVar 0) (mC (.int 2))) (mCB bLen (mCons (mVar 3) mNil)))) (mCons (mBin dIx (mVar 10) (mBin dMod (mBin dIx (mVar 0) (mC (.int 3))) (mCB bLen (mCons (mVar 10) mNil)))) (mCons (mVar 11) mNil)))))))))) mNext)
    (mSeq
    (mIfS (mTst (mBin dEq (mVar 6) (mC (.str "not")))) (mRet (mTup (mCons (mVar 6) (mCons (mCB self (mCons (mSl (mVar 0) (mPart (mC (.int 6))) mNoPart) (mCons (mBin dSub (mVar 1) (mC (.int 1))) (mCons (mVar 2) (mCons (mVar 3) (mCons (mVar 4) mNil)))))) mNil)))) mNext)
    (mSeq
    (mAsg (mBin dAdd (mC (.int 1)) (mBin dMod (mBin dIx (mVar 0) (mC (.int 1))) (mBin dSub (mVar 1) (mC (.int 2))))) (gB 7))
    (mSeq
    (mAsg (mCB self (mCons (mSl (mVar 0) (mPart (mC (.int 6))) (mPart (mBin dAdd (mC (.int 6)) (mBin dMul (mC (.int 6)) (mVar 7))))) (mCons (mVar 7) (mCons (mVar 2) (mCons (mVar 3) (mCons (mVar 4) mNil)))))) (gB 8))
    (mRet (mTup (mCons (mVar 6) (mCons (mVar 8) (mCons (mCB self (mCons (mSl (mVar 0) (mPart (mBin dAdd (mC (.int 6)) (mBin dMul (mC (.int 6)) (mVar 7)))) mNoPart) (mCons (mBin dSub (mBin dSub (mVar 1) (mC (.int 1))) (mVar 7)) (mCons (mVar 2) (mCons (mVar 3) (mCons (mVar 4) mNil)))))) mNil))))))))))))
def fm_law_condition : Nat → List PyData → Option PyData
  | 0 => fun _ => none
  | n + 1 => runB 13 (mb_law_condition (fm_law_condition n))
theorem ok_law_condition {P : Program} {w : World} {K : PySem.W.Frag} {mg : Str → Option Value} {base : Heap} (T : Txt K mg w) (G_law_atom : FnOk P w K mg base CX0 1 T.f_law_atom T.fd_law_atom ["picks", "columns", "ways"] (spD K 3 fm_law_atom)) : ∀ n, FnOk P w K mg base CX0 (2 + n) T.f_law_condition T.fd_law_condition ["picks", "parts", "ground", "columns", "ways"] (spD K 5 (fm_law_condition n))
  | 0 => fn_none T.F_law_condition sc_law_condition (fun _ => rfl)
  | n + 1 => by
    have GS := ok_law_condition (P := P) (w := w) (base := base) T G_law_atom n
    have F := defF_fam (P := P) (w := w) (K := K) (mg := mg) (base := base) (qual := "_law_condition") (sc := defScope s_law_condition) (f := T.f_law_condition) (j := 2 + n) sc_law_condition.nd
    have hS := fun i => (rfl : (defF P w K mg base ["picks", "parts", "ground", "columns", "ways", "words", "word", "left", "one", "table", "names", "inner", "column"] "_law_condition" (defScope s_law_condition) T.f_law_condition (2 + n) i).env.scope = defScope s_law_condition)
    exact fn_dataT (M := []) T.F_law_condition sc_law_condition (by decide +kernel) (by decide) (by decide)
      (sst_cons
      (st_of (s_if (t_cmp (fun i => op_ltAll (F.hK i) (F.u64 i)) opd_lt (q_of (d_var 1)) (q_of d_int)) (ss_one
      (s_ret (d_call (fun _ => G_law_atom) (fun i => (F.room i).mono (by omega)) (fun _ => T.g_law_atom) (fun _ => T.k_law_atom) (fun _ => T.b_law_atom) (a_cons (d_var 0) (a_cons (d_var 3) (a_cons (d_var 4) a_nil))) (len_cons (len_cons (len_cons len_nil)))))) ss_nil))
      (sst_cons
      (st_of (s_set F 5 (d_op (fun i => op_adds (F.hK i)) opd_add (q_of (d_op (fun i => op_adds (F.hK i)) opd_add (q_of (d_lst (a_cons d_str a_nil))) (q_of (d_rep (a_cons d_str (a_cons d_str (a_cons d_str (a_cons d_str a_nil)))) (d_ty (fun _ => call_int1) crd_int (fun _ => T.n_int) (by decide +kernel) (b_cons (q_of (d_cmp (fun _ => op_gt) opd_gt (q_of (d_var 1)) (q_of d_int))) b_nil)))))) (q_of (d_rep (a_cons d_str a_nil) (d_count (d_var 4) d_str))))))
      (sst_cons
      (st_of (s_set F 6 (d_ix (fun i => ix_seqK (F.hK i)) opd_ix (q_of (d_var 5)) (q_of (d_op (fun _ => op_mod) opd_mod (q_of (d_ix (fun i => ix_seqK (F.hK i)) opd_ix (q_of (d_var 0)) (q_of d_int))) (q_of (d_cb (fun i => cr_len (F.hK i)) crd_len (fun _ => T.n_len) (by decide +kernel) (b_cons (q_of (d_var 5)) b_nil))))))))
      (sst_cons
      (st_if (t_cmp (fun i => op_eqK (F.hK i) (F.u64 i)) opd_eq (q_of (d_var 6)) (q_of d_str)) (sst_cons
      (st_of (s_set F 9 (d_ix (fun i => ix_seqK (F.hK i)) opd_ix (q_of (d_var 2)) (q_of (d_op (fun _ => op_mod) opd_mod (q_of (d_ix (fun i => ix_seqK (F.hK i)) opd_ix (q_of (d_var 0)) (q_of d_int))) (q_of (d_cb (fun i => cr_len (F.hK i)) crd_len (fun _ => T.n_len) (by decide +kernel) (b_cons (q_of (d_var 2)) b_nil))))))))
      (sst_cons
      (st_of (s_setLc F 10 [("column", 12)] (i_weak (i_seq F (d_ix (fun i => ix_seqK (F.hK i)) opd_ix (q_of (d_var 9)) (q_of d_int)))) hS (blkOk_by (by decide +kernel)) (g_name (F.blk _) 12) gk_name ts_nil (d_ix (fun i => ix_seqK ((F.blk _).hK i)) opd_ix (q_of (d_var 12)) (q_of d_int))))
      (sst_cons
      (st_set F 11 (dt_call (fun _ => GS) (fun i => (F.room i).mono (by omega)) (fun _ => T.g_law_condition) (fun _ => T.k_law_condition) (fun _ => T.b_law_condition) (at_cons (dt_of (d_sl F (q_of (d_var 0)) (o_some d_int) o_none)) (at_cons (dt_of (d_op (fun _ => op_sub) opd_sub (q_of (d_var 1)) (q_of d_int))) (at_cons (dt_of (d_var 2)) (at_cons (dt_of (d_var 10)) (at_cons (dt_repl (d_var 4)) at_nil))))) (len_cons (len_cons (len_cons (len_cons (len_cons len_nil)))))))
      (sst_one
      (st_of (s_ret (d_tup (a_cons (d_var 6) (a_cons (d_ix (fun i => ix_seqK (F.hK i)) opd_ix (q_of (d_var 9)) (q_of d_int)) (a_cons (d_ix (fun i => ix_seqK (F.hK i)) opd_ix (q_of (d_var 3)) (q_of (d_op (fun _ => op_mod) opd_mod (q_of (d_ix (fun i => ix_seqK (F.hK i)) opd_ix (q_of (d_var 0)) (q_of d_int))) (q_of (d_cb (fun i => cr_len (F.hK i)) crd_len (fun _ => T.n_len) (by decide +kernel) (b_cons (q_of (d_var 3)) b_nil)))))) (a_cons (d_ix (fun i => ix_seqK (F.hK i)) opd_ix (q_of (d_var 10)) (q_of (d_op (fun _ => op_mod) opd_mod (q_of (d_ix (fun i => ix_seqK (F.hK i)) opd_ix (q_of (d_var 0)) (q_of d_int))) (q_of (d_cb (fun i => cr_len (F.hK i)) crd_len (fun _ => T.n_len) (by decide +kernel) (b_cons (q_of (d_var 10)) b_nil)))))) (a_cons (d_var 11) a_nil)))))))))))) sst_nil)
      (sst_cons
      (st_of (s_if (t_cmp (fun i => op_eqK (F.hK i) (F.u64 i)) opd_eq (q_of (d_var 6)) (q_of d_str)) (ss_one
      (s_ret (d_tup (a_cons (d_var 6) (a_cons (d_call (fun _ => GS) (fun i => (F.room i).mono (by omega)) (fun _ => T.g_law_condition) (fun _ => T.k_law_condition) (fun _ => T.b_law_condition) (a_cons (d_sl F (q_of (d_var 0)) (o_some d_int) o_none) (a_cons (d_op (fun _ => op_sub) opd_sub (q_of (d_var 1)) (q_of d_int)) (a_cons (d_var 2) (a_cons (d_var 3) (a_cons (d_var 4) a_nil))))) (len_cons (len_cons (len_cons (len_cons (len_cons len_nil)))))) a_nil))))) ss_nil))
      (sst_cons
      (st_of (s_set F 7 (d_op (fun i => op_adds (F.hK i)) opd_add (q_of d_int) (q_of (d_op (fun _ => op_mod) opd_mod (q_of (d_ix (fun i => ix_seqK (F.hK i)) opd_ix (q_of (d_var 0)) (q_of d_int))) (q_of (d_op (fun _ => op_sub) opd_sub (q_of (d_var 1)) (q_of d_int))))))))
      (sst_cons
      (st_of (s_set F 8 (d_call (fun _ => GS) (fun i => (F.room i).mono (by omega)) (fun _ => T.g_law_condition) (fun _ => T.k_law_condition) (fun _ => T.b_law_condition) (a_cons (d_sl F (q_of (d_var 0)) (o_some d_int) (o_some (d_op (fun i => op_adds (F.hK i)) opd_add (q_of d_int) (q_of (d_op (fun _ => op_mulA) opd_mul (q_of d_int) (q_of (d_var 7))))))) (a_cons (d_var 7) (a_cons (d_var 2) (a_cons (d_var 3) (a_cons (d_var 4) a_nil))))) (len_cons (len_cons (len_cons (len_cons (len_cons len_nil))))))))
      (sst_one
      (st_of (s_ret (d_tup (a_cons (d_var 6) (a_cons (d_var 8) (a_cons (d_call (fun _ => GS) (fun i => (F.room i).mono (by omega)) (fun _ => T.g_law_condition) (fun _ => T.k_law_condition) (fun _ => T.b_law_condition) (a_cons (d_sl F (q_of (d_var 0)) (o_some (d_op (fun i => op_adds (F.hK i)) opd_add (q_of d_int) (q_of (d_op (fun _ => op_mulA) opd_mul (q_of d_int) (q_of (d_var 7)))))) o_none) (a_cons (d_op (fun _ => op_sub) opd_sub (q_of (d_op (fun _ => op_sub) opd_sub (q_of (d_var 1)) (q_of d_int))) (q_of (d_var 7))) (a_cons (d_var 2) (a_cons (d_var 3) (a_cons (d_var 4) a_nil))))) (len_cons (len_cons (len_cons (len_cons (len_cons len_nil)))))) a_nil))))))))))))))

/-! law_new_names, level 2 -/
theorem sc_law_new_names : FnScope ["picks", "many", "taken", "found", "k"] ["picks", "many", "taken"] (defScope s_law_new_names) := ⟨rfl, rfl, rfl, by decide +kernel, rfl, by decide +kernel, by decide +kernel⟩
def lb1_law_new_names : En → Option Fl :=
    (mApp 3 (mCB fm_law_name (mCons (mSl (mVar 0) (mPart (mVar 4)) mNoPart) (mCons (mBin dAdd (mVar 2) (mVar 3)) mNil))))
def mb_law_new_names : En → Option Fl :=
    (mSeq
    (mAsg (mLst mNil) (gB 3))
    (mSeq
    (mFor (mRng rng1 (mCons (mVar 1) mNil)) (gB 4) lb1_law_new_names)
    (mRet (mCB bTuple (mCons (mVar 3) mNil)))))
def fm_law_new_names : List PyData → Option PyData := runB 5 mb_law_new_names
theorem ok_law_new_names {P : Program} {w : World} {K : PySem.W.Frag} {mg : Str → Option Value} {base : Heap} (T : Txt K mg w) (G_law_name : FnOk P w K mg base CX0 1 T.f_law_name T.fd_law_name ["some", "taken"] (spD K 2 fm_law_name)) : FnOk P w K mg base CX0 2 T.f_law_new_names T.fd_law_new_names ["picks", "many", "taken"] (spD K 3 fm_law_new_names) := by
  have F := defF_fam (P := P) (w := w) (K := K) (mg := mg) (base := base) (qual := "_law_new_names") (sc := defScope s_law_new_names) (f := T.f_law_new_names) (j := 1) sc_law_new_names.nd
  have hS := fun i => (rfl : (defF P w K mg base ["picks", "many", "taken", "found", "k"] "_law_new_names" (defScope s_law_new_names) T.f_law_new_names 1 i).env.scope = defScope s_law_new_names)
  exact fn_data (M := [3]) T.F_law_new_names sc_law_new_names (by decide)
      (ss_cons
      (s_own F 3 f_nil)
      (ss_cons
      (s_for F (fun _ => PassesOwn.never) (i_range1 (fun _ => T.n_range) (a_cons (d_var 1) a_nil)) (g_name F 4) (ss_one
      (have hE := (d_call (fun _ => G_law_name) (fun i => (F.room i).mono (by omega)) (fun _ => T.g_law_name) (fun _ => T.k_law_name) (fun _ => T.b_law_name) (a_cons (d_sl F (q_of (d_var 0)) (o_some (d_var 4)) o_none) (a_cons (d_op (fun i => op_adds (F.hK i)) opd_add (q_of (d_var 2)) (q_var 3)) a_nil)) (len_cons (len_cons len_nil))); s_app F 3 hE (by decide) (fun j => ps_expr (pe_bm PySem.F.plainAttrs_list PySem.F.slot_list_append PySem.F.type_list_append mt_append (pv 3) (pa_cons (hE.pe j) pa_nil))))))
      (ss_one
      (s_ret (d_ty (fun i => cr_tuple (F.hK i)) crd_tuple (fun _ => T.n_tuple) (by decide +kernel) (b_cons (q_var 3) b_nil))))))

/-! law_spoilt, level 2 -/
theorem sc_law_spoilt : FnScope ["thing", "picks", "parts", "at", "way"] ["thing", "picks"] (defScope s_law_spoilt) := ⟨rfl, rfl, rfl, by decide +kernel, rfl, by decide +kernel, by decide +kernel⟩
def mb_law_spoilt (self : List PyData → Option PyData) : En → Option Fl :=
    (mSeq
    (mIfS (mOrT (mNotT (mTru (mIsi (fun d => isiD "tuple" d || isiD "list" d) (mVar 0)))) (mOrT (mTst (mBin dEq (mCB bLen (mCons (mVar 0) mNil)) (mC (.int 0)))) (mOrT (mTst (mBin dLt (mCB bLen (mCons (mVar 1) mNil)) (mC (.int 9)))) (mTst (mBin dEq (mBin dMod (mBin dIx (mVar 1) (mC (.int 0))) (mC (.int 9))) (mC (.int 0))))))) (mRet (mCB fm_law_odd (mCons (mSl (mVar 1) (mPart (mC (.int 1))) mNoPart) mNil))) mNext)
    (mSeq
    (mAsg (mCB bList (mCons (mVar 0) mNil)) (gB 2))
    (mSeq
    (mAsg (mBin dMod (mBin dIx (mVar 1) (mC (.int 1))) (mCB bLen (mCons (mVar 2) mNil))) (gB 3))
    (mSeq
    (mAsg (mBin dMod (mBin dIx (mVar 1) (mC (.int 2))) (mC (.int 12))) (gB 4))
    (mSeq
    (mIfS (mTst (mBin dEq (mVar 4) (mC (.int 0)))) (mAsg (mCat (mSl (mVar 2) mNoPart (mPart (mVar 3))) (mSl (mVar 2) (mPart (mBin dAdd (mVar 3) (mC (.int 1)))) mNoPart)) (gB 2)) (mIfS (mTst (mBin dEq (mVar 4) (mC (.int 1)))) (mAsg (mCat (mSl (mVar 2) mNoPart (mPart (mBin dAdd (mVar 3) (mC (.int 1))))) (mSl (mVar 2) (mPart (mVar 3)) mNoPart)) (gB 2)) (mIfS (mTst (mBin dEq (mVar 4) (mC (.int 2)))) (mAsg (mCat (mSl (mVar 2) (mPart (mVar 3)) mNoPart) (mSl (mVar 2) mNoPart (mPart (mVar 3)))) (gB 2)) (mIfS (mTst (mBin dEq (mVar 4) (mC (.int 3)))) (mAsg (mCat (mBin dAdd (mSl (mVar 2) mNoPart (mPart (mVar 3))) (mLst (mCons (mCB fm_law_odd (mCons (mSl (mVar 1) (mPart (mC (.int 3))) mNoPart) mNil)) mNil))) (mSl (mVar 2) (mPart (mVar 3)) mNoPart)) (gB 2)) (mIfS (mTst (mBin dGt (mVar 4) (mC (.int 4)))) (mItem 2 (mVar 3) (mCB self (mCons (mBin dIx (mVar 2) (mVar 3)) (mCons (mSl (mVar 1) (mPart (mC (.int 4))) mNoPart) mNil)))) mNext)))))
    (mSeq
    (mIfS (mTst (mBin dEq (mIsi (isiD "tuple") (mVar 0)) (mBin dEq (mVar 4) (mC (.int 4))))) (mRet (mVar 2)) mNext)
    (mRet (mCB bTuple (mCons (mVar 2) mNil)))))))))
def fm_law_spoilt : Nat → List PyData → Option PyData
  | 0 => fun _ => none
  | n + 1 => runB 5 (mb_law_spoilt (fm_law_spoilt n))
theorem ok_law_spoilt {P : Program} {w : World} {K : PySem.W.Frag} {mg : Str → Option Value} {base : Heap} (T : Txt K mg w) (G_law_odd : FnOk P w K mg base CX0 1 T.f_law_odd T.fd_law_odd ["picks"] (spD K 1 fm_law_odd)) : ∀ n, FnOk P w K mg base CX0 (2 + n) T.f_law_spoilt T.fd_law_spoilt ["thing", "picks"] (spD K 2 (fm_law_spoilt n))
  | 0 => fn_none T.F_law_spoilt sc_law_spoilt (fun _ => rfl)
  | n + 1 => by
    have GS := ok_law_spoilt (P := P) (w := w) (base := base) T G_law_odd n
    have F := defF_fam (P := P) (w := w) (K := K) (mg := mg) (base := base) (qual := "_law_spoilt") (sc := defScope s_law_spoilt) (f := T.f_law_spoilt) (j := 2 + n) sc_law_spoilt.nd
    have hS := fun i => (rfl : (defF P w K mg base ["thing", "picks", "parts", "at", "way"] "_law_spoilt" (defScope s_law_spoilt) T.f_law_spoilt (2 + n) i).env.scope = defScope s_law_spoilt)
    exact fn_data (M := [2]) T.F_law_spoilt sc_law_spoilt (by decide)
      (ss_cons
      (s_if (w_pt (w_or (t_not (t_tru F (q_of (d_isi2 F "tuple" "list" (q_of (d_var 0)) (fun _ => T.n_isinstance) (fun _ => T.n_tuple) (fun _ => T.n_list) isiT_tuple isiT_list (by decide +kernel) (by decide +kernel))))) (w_or (t_cmp (fun i => op_eqK (F.hK i) (F.u64 i)) opd_eq (q_of (d_cb (fun i => cr_len (F.hK i)) crd_len (fun _ => T.n_len) (by decide +kernel) (b_cons (q_of (d_var 0)) b_nil))) (q_of d_int)) (w_or (t_cmp (fun i => op_ltAll (F.hK i) (F.u64 i)) opd_lt (q_of (d_cb (fun i => cr_len (F.hK i)) crd_len (fun _ => T.n_len) (by decide +kernel) (b_cons (q_of (d_var 1)) b_nil))) (q_of d_int)) (w_or1 (t_cmp (fun i => op_eqK (F.hK i) (F.u64 i)) opd_eq (q_of (d_op (fun _ => op_mod) opd_mod (q_of (d_ix (fun i => ix_seqK (F.hK i)) opd_ix (q_of (d_var 1)) (q_of d_int))) (q_of d_int))) (q_of d_int))))))) (ss_one
      (s_ret (d_call (fun _ => G_law_odd) (fun i => (F.room i).mono (by omega)) (fun _ => T.g_law_odd) (fun _ => T.k_law_odd) (fun _ => T.b_law_odd) (a_cons (d_sl F (q_of (d_var 1)) (o_some d_int) o_none) a_nil) (len_cons len_nil)))) ss_nil)
      (ss_cons
      (have hE := (q_of (d_var 0)); s_own F 2 (f_list hE (d_ty (fun i => cr_list (F.hK i)) crd_list (fun _ => T.n_list) (by decide +kernel) (b_cons hE b_nil)).pe))
      (ss_cons
      (s_set F 3 (d_op (fun _ => op_mod) opd_mod (q_of (d_ix (fun i => ix_seqK (F.hK i)) opd_ix (q_of (d_var 1)) (q_of d_int))) (q_of (d_cb (fun i => cr_len (F.hK i)) crd_len (fun _ => T.n_len) (by decide +kernel) (b_cons (q_var 2) b_nil)))))
      (ss_cons
      (s_set F 4 (d_op (fun _ => op_mod) opd_mod (q_of (d_ix (fun i => ix_seqK (F.hK i)) opd_ix (q_of (d_var 1)) (q_of d_int))) (q_of d_int)))
      (ss_cons
      (s_if (t_cmp (fun i => op_eqK (F.hK i) (F.u64 i)) opd_eq (q_of (d_var 4)) (q_of d_int)) (ss_one
      (s_own F 2 (f_cat F (q_of (d_sl F (q_var 2) o_none (o_some (d_var 3)))) (q_of (d_sl F (q_var 2) (o_some (d_op (fun i => op_adds (F.hK i)) opd_add (q_of (d_var 3)) (q_of d_int))) o_none))))) (ss_one
      (s_if (t_cmp (fun i => op_eqK (F.hK i) (F.u64 i)) opd_eq (q_of (d_var 4)) (q_of d_int)) (ss_one
      (s_own F 2 (f_cat F (q_of (d_sl F (q_var 2) o_none (o_some (d_op (fun i => op_adds (F.hK i)) opd_add (q_of (d_var 3)) (q_of d_int))))) (q_of (d_sl F (q_var 2) (o_some (d_var 3)) o_none))))) (ss_one
      (s_if (t_cmp (fun i => op_eqK (F.hK i) (F.u64 i)) opd_eq (q_of (d_var 4)) (q_of d_int)) (ss_one
      (s_own F 2 (f_cat F (q_of (d_sl F (q_var 2) (o_some (d_var 3)) o_none)) (q_of (d_sl F (q_var 2) o_none (o_some (d_var 3))))))) (ss_one
      (s_if (t_cmp (fun i => op_eqK (F.hK i) (F.u64 i)) opd_eq (q_of (d_var 4)) (q_of d_int)) (ss_one
      (s_own F 2 (f_cat F (q_of (d_op (fun i => op_adds (F.hK i)) opd_add (q_of (d_sl F (q_var 2) o_none (o_some (d_var 3)))) (q_of (d_lst (a_cons (d_call (fun _ => G_law_odd) (fun i => (F.room i).mono (by omega)) (fun _ => T.g_law_odd) (fun _ => T.k_law_odd) (fun _ => T.b_law_odd) (a_cons (d_sl F (q_of (d_var 1)) (o_some d_int) o_none) a_nil) (len_cons len_nil)) a_nil))))) (q_of (d_sl F (q_var 2) (o_some (d_var 3)) o_none))))) (ss_one
      (s_if (t_cmp (fun _ => op_gt) opd_gt (q_of (d_var 4)) (q_of d_int)) (ss_one
      (s_item F 2 (d_call (fun _ => GS) (fun i => (F.room i).mono (by omega)) (fun _ => T.g_law_spoilt) (fun _ => T.k_law_spoilt) (fun _ => T.b_law_spoilt) (a_cons (d_ix (fun i => ix_seqK (F.hK i)) opd_ix (q_var 2) (q_of (d_var 3))) (a_cons (d_sl F (q_of (d_var 1)) (o_some d_int) o_none) a_nil)) (len_cons (len_cons len_nil))) (d_var 3))) ss_nil)))))))))
      (ss_cons
      (s_if (t_cmp (fun i => op_eqK (F.hK i) (F.u64 i)) opd_eq (q_of (d_isi F "tuple" (q_of (d_var 0)) (fun _ => T.n_isinstance) (fun _ => T.n_tuple) isiT_tuple (by decide +kernel))) (q_of (d_cmp (fun i => op_eqK (F.hK i) (F.u64 i)) opd_eq (q_of (d_var 4)) (q_of d_int)))) (ss_one
      (s_retO 2)) ss_nil)
      (ss_one
      (s_ret (d_ty (fun i => cr_tuple (F.hK i)) crd_tuple (fun _ => T.n_tuple) (by decide +kernel) (b_cons (q_var 2) b_nil))))))))))

/-! law_sound, level 2 -/
theorem sc_law_sound : FnScope ["ground", "columns", "thing", "plain", "inside", "counts", "many", "names", "one"] ["ground", "columns", "thing", "plain", "inside"] (defScope s_law_sound) := ⟨rfl, rfl, rfl, by decide +kernel, rfl, by decide +kernel, by decide +kernel⟩
def le1_law_sound (self : List PyData → Option PyData) : En → Option PyData :=
    (mAnd (mIsi (isiD "str") (mVar 8)) (mBin (dIn false) (mVar 8) (mVar 1)))
def le2_law_sound (self : List PyData → Option PyData) : En → Option PyData :=
    (mCB self (mCons (mVar 0) (mCons (mVar 1) (mCons (mVar 8) (mCons (mVar 3) (mCons (mVar 4) mNil))))))
def mb_law_sound (self : List PyData → Option PyData) : En → Option Fl :=
    (mSeq
    (mIfS (mOrT (mNotT (mTru (mIsi (isiD "tuple") (mVar 2)))) (mOrT (mTst (mBin dEq (mVar 2) (mTup mNil))) (mNotT (mTru (mIsi (isiD "str") (mBin dIx (mVar 2) (mC (.int 0)))))))) (mRet (mC (.int 0))) mNext)
    (mSeq
    (mDisp 5 (mP1 "yes" (mC (.int 0)) (mP1 "is" (mC (.int 2)) (mP1 "below" (mC (.int 2)) (mP1 "same" (mC (.int 2)) (mP1 "mine" (mC (.int 1)) (mP1 "empty" (mC (.int 1)) (mP1 "loud" (mC (.int 1)) (mP1 "has" (mC (.int 4)) (mP1 "not" (mC (.int 1)) mP0))))))))))
    (mSeq
    (mPutK 5 (mC (.str "and")) (mC (.int 2)))
    (mSeq
    (mPutK 5 (mC (.str "or")) (mC (.int 2)))
    (mSeq
    (mIfS (mOrT (mInO true 5 (mBin dIx (mVar 2) (mC (.int 0)))) (mOrT (mTst (mBin dNe (mCB bLen (mCons (mVar 2) mNil)) (mBin dAdd (mC (.int 1)) (mGetO 5 (mBin dIx (mVar 2) (mC (.int 0))))))) (mAndT (mTru (mVar 3)) (mTst (mBin dEq (mBin dIx (mVar 2) (mC (.int 0))) (mC (.str "mine"))))))) (mRet (mC (.int 0))) mNext)
    (mSeq
    (mIfS (mTst (mBin (dIn false) (mBin dIx (mVar 2) (mC (.int 0))) (mTup (mCons (mC (.str "not")) (mCons (mC (.str "and")) (mCons (mC (.str "or")) mNil)))))) (mSeq
    (mAsg (mLc [8] (mIt (mSl (mVar 2) (mPart (mC (.int 1))) mNoPart)) (gB 8) mYes (le2_law_sound self)) (gB 6))
    (mRet (mIf (mTst (mBin dGt (mCB bMinL (mCons (mVar 6) mNil)) (mC (.int 0)))) (mBin dAdd (mC (.int 1)) (mCB bSum (mCons (mVar 6) mNil))) (mC (.int 0))))) mNext)
    (mSeq
    (mIfS (mTst (mBin dEq (mBin dIx (mVar 2) (mC (.int 0))) (mC (.str "has")))) (mSeq
    (mAsg (mCB fm_law_names_of (mCons (mVar 0) (mCons (mBin dIx (mVar 2) (mC (.int 1))) mNil))) (gB 7))
    (mSeq
    (mIfS (mOrT (mAndT (mTru (mVar 4)) (mNotT (mTru (mVar 3)))) (mOrT (mTst (mBin (dIs false) (mVar 7) (mC .none))) (mOrT (mTst (mBin (dIn true) (mBin dIx (mVar 2) (mC (.int 2))) (mVar 1))) (mTst (mBin (dIn true) (mBin dIx (mVar 2) (mC (.int 3))) (mVar 7)))))) (mRet (mC (.int 0))) mNext)
    (mSeq
    (mAsg (mCB self (mCons (mVar 0) (mCons (mVar 7) (mCons (mBin dIx (mVar 2) (mC (.int 4))) (mCons (mVar 3) (mCons (mC (.bool true)) mNil)))))) (gB 6))
    (mRet (mIf (mTst (mBin dGt (mVar 6) (mC (.int 0)))) (mBin dAdd (mC (.int 1)) (mVar 6)) (mC (.int 0))))))) mNext)
    (mSeq
    (mIfS (mNotT (mTru (mCB bAll (mCons (mLc [8] (mIt (mSl (mVar 2) (mPart (mC (.int 1))) (mPart (mIf (mTst (mBin dEq (mBin dIx (mVar 2) (mC (.int 0))) (mC (.str "same")))) (mC (.int 3)) (mC (.int 2)))))) (gB 8) mYes (le1_law_sound self)) mNil)))) (mRet (mC (.int 0))) mNext)
    (mSeq
    (mIfS (mAndT (mTst (mBin (dIn false) (mBin dIx (mVar 2) (mC (.int 0))) (mTup (mCons (mC (.str "is")) (mCons (mC (.str "below")) mNil))))) (mNotT (mTru (mCB fm_law_from (mCons (mBin dIx (mVar 2) (mC (.int 2))) (mCons (mC (.int 0)) (mCons (mBin dAdd (mC (.int 9)) (mCB bInt (mCons (mBin dEq (mBin dIx (mVar 2) (mC (.int 0))) (mC (.str "below"))) mNil))) mNil))))))) (mRet (mC (.int 0))) mNext)
    (mRet (mC (.int 1))))))))))))
def fm_law_sound : Nat → List PyData → Option PyData
  | 0 => fun _ => none
  | n + 1 => runB 9 (mb_law_sound (fm_law_sound n))
theorem ok_law_sound {P : Program} {w : World} {K : PySem.W.Frag} {mg : Str → Option Value} {base : Heap} (T : Txt K mg w) (G_law_from : FnOk P w K mg base CX0 1 T.f_law_from T.fd_law_from ["thing", "least", "top"] (spD K 3 fm_law_from)) (G_law_names_of : FnOk P w K mg base CX0 1 T.f_law_names_of T.fd_law_names_of ["ground", "name"] (spD K 2 fm_law_names_of)) : ∀ n, FnOk P w K mg base CX0 (2 + n) T.f_law_sound T.fd_law_sound ["ground", "columns", "thing", "plain", "inside"] (spD K 5 (fm_law_sound n))
  | 0 => fn_none T.F_law_sound sc_law_sound (fun _ => rfl)
  | n + 1 => by
    have GS := ok_law_sound (P := P) (w := w) (base := base) T G_law_from G_law_names_of n
    have F := defF_fam (P := P) (w := w) (K := K) (mg := mg) (base := base) (qual := "_law_sound") (sc := defScope s_law_sound) (f := T.f_law_sound) (j := 2 + n) sc_law_sound.nd
    have hS := fun i => (rfl : (defF P w K mg base ["ground", "columns", "thing", "plain", "inside", "counts", "many", "names", "one"] "_law_sound" (defScope s_law_sound) T.f_law_sound (2 + n) i).env.scope = defScope s_law_sound)
    exact fn_data (M := [5, 2005]) T.F_law_sound sc_law_sound (by decide)
      (ss_cons
      (s_if (w_pt (w_or (t_not (t_tru F (q_of (d_isi F "tuple" (q_of (d_var 2)) (fun _ => T.n_isinstance) (fun _ => T.n_tuple) isiT_tuple (by decide +kernel))))) (w_or (t_cmp (fun i => op_eqK (F.hK i) (F.u64 i)) opd_eq (q_of (d_var 2)) (q_of (d_tup a_nil))) (w_or1 (t_not (t_tru F (q_of (d_isi F "str" (q_of (d_ix (fun i => ix_seqK (F.hK i)) opd_ix (q_of (d_var 2)) (q_of d_int))) (fun _ => T.n_isinstance) (fun _ => T.n_str) isiT_str (by decide +kernel))))))))) (ss_one
      (s_ret d_int)) ss_nil)
      (ss_cons
      (s_disp F 5 (p_cons d_int (p_cons d_int (p_cons d_int (p_cons d_int (p_cons d_int (p_cons d_int (p_cons d_int (p_cons d_int (p_cons d_int p_nil))))))))))
      (ss_cons
      (s_putK F 5 d_int d_str)
      (ss_cons
      (s_putK F 5 d_int d_str)
      (ss_cons
      (s_if (w_pt (w_or (t_notInO F 5 (d_ix (fun i => ix_seqK (F.hK i)) opd_ix (q_of (d_var 2)) (q_of d_int))) (w_or (t_cmp (fun i => op_neK (F.hK i) (F.u64 i)) opd_ne (q_of (d_cb (fun i => cr_len (F.hK i)) crd_len (fun _ => T.n_len) (by decide +kernel) (b_cons (q_of (d_var 2)) b_nil))) (q_of (d_op (fun i => op_adds (F.hK i)) opd_add (q_of d_int) (q_of (d_getO F 5 (d_ix (fun i => ix_seqK (F.hK i)) opd_ix (q_of (d_var 2)) (q_of d_int))))))) (w_or1 (w_pt (w_and (t_tru F (q_of (d_var 3))) (w_and1 (t_cmp (fun i => op_eqK (F.hK i) (F.u64 i)) opd_eq (q_of (d_ix (fun i => ix_seqK (F.hK i)) opd_ix (q_of (d_var 2)) (q_of d_int))) (q_of d_str))))))))) (ss_one
      (s_ret d_int)) ss_nil)
      (ss_cons
      (s_if (t_cmp (fun i => op_ins (F.hK i) (F.u65 i)) (opd_in false) (q_of (d_ix (fun i => ix_seqK (F.hK i)) opd_ix (q_of (d_var 2)) (q_of d_int))) (q_of (d_tup (a_cons d_str (a_cons d_str (a_cons d_str a_nil)))))) (ss_cons
      (s_setLc F 6 [("one", 8)] (i_weak (i_seq F (d_sl F (q_of (d_var 2)) (o_some d_int) o_none))) hS (blkOk_by (by decide +kernel)) (g_name (F.blk _) 8) gk_name ts_nil (d_call (fun _ => GS) (fun i => ((F.blk _).room i).mono (by omega)) (fun _ => T.g_law_sound) (fun _ => T.k_law_sound) (fun _ => T.b_law_sound) (a_cons (d_var 0) (a_cons (d_var 1) (a_cons (d_var 8) (a_cons (d_var 3) (a_cons (d_var 4) a_nil))))) (len_cons (len_cons (len_cons (len_cons (len_cons len_nil)))))))
      (ss_one
      (s_ret (d_if (t_cmp (fun _ => op_gt) opd_gt (q_of (d_cb (fun i => cr_minL (F.hK i) (F.calm i)) crd_minL (fun _ => T.n_min) (by decide +kernel) (b_cons (q_of (d_var 6)) b_nil))) (q_of d_int)) (d_op (fun i => op_adds (F.hK i)) opd_add (q_of d_int) (q_of (d_cb (fun i => cr_sumK (F.hK i) (F.calm i)) crd_sum (fun _ => T.n_sum) (by decide +kernel) (b_cons (q_of (d_var 6)) b_nil)))) d_int)))) ss_nil)
      (ss_cons
      (s_if (t_cmp (fun i => op_eqK (F.hK i) (F.u64 i)) opd_eq (q_of (d_ix (fun i => ix_seqK (F.hK i)) opd_ix (q_of (d_var 2)) (q_of d_int))) (q_of d_str)) (ss_cons
      (s_set F 7 (d_call (fun _ => G_law_names_of) (fun i => (F.room i).mono (by omega)) (fun _ => T.g_law_names_of) (fun _ => T.k_law_names_of) (fun _ => T.b_law_names_of) (a_cons (d_var 0) (a_cons (d_ix (fun i => ix_seqK (F.hK i)) opd_ix (q_of (d_var 2)) (q_of d_int)) a_nil)) (len_cons (len_cons len_nil))))
      (ss_cons
      (s_if (w_pt (w_or (w_pt (w_and (t_tru F (q_of (d_var 4))) (w_and1 (t_not (t_tru F (q_of (d_var 3))))))) (w_or (t_cmp (fun _ => op_isB) (opd_is false) (q_of (d_var 7)) (q_of d_non)) (w_or (t_cmp (fun i => op_notIns (F.hK i) (F.u65 i)) (opd_in true) (q_of (d_ix (fun i => ix_seqK (F.hK i)) opd_ix (q_of (d_var 2)) (q_of d_int))) (q_of (d_var 1))) (w_or1 (t_cmp (fun i => op_notIns (F.hK i) (F.u65 i)) (opd_in true) (q_of (d_ix (fun i => ix_seqK (F.hK i)) opd_ix (q_of (d_var 2)) (q_of d_int))) (q_of (d_var 7)))))))) (ss_one
      (s_ret d_int)) ss_nil)
      (ss_cons
      (s_set F 6 (d_call (fun _ => GS) (fun i => (F.room i).mono (by omega)) (fun _ => T.g_law_sound) (fun _ => T.k_law_sound) (fun _ => T.b_law_sound) (a_cons (d_var 0) (a_cons (d_var 7) (a_cons (d_ix (fun i => ix_seqK (F.hK i)) opd_ix (q_of (d_var 2)) (q_of d_int)) (a_cons (d_var 3) (a_cons d_bl a_nil))))) (len_cons (len_cons (len_cons (len_cons (len_cons len_nil)))))))
      (ss_one
      (s_ret (d_if (t_cmp (fun _ => op_gt) opd_gt (q_of (d_var 6)) (q_of d_int)) (d_op (fun i => op_adds (F.hK i)) opd_add (q_of d_int) (q_of (d_var 6))) d_int)))))) ss_nil)
      (ss_cons
      (s_if (t_not (t_tru F (q_of (d_cb (fun i => cr_allK (F.hK i) (F.calm i)) crd_all (fun _ => T.n_all) (by decide +kernel) (b_cons (q_of (d_lc F [("one", 8)] (i_weak (i_seq F (d_sl F (q_of (d_var 2)) (o_some d_int) (o_some (d_if (t_cmp (fun i => op_eqK (F.hK i) (F.u64 i)) opd_eq (q_of (d_ix (fun i => ix_seqK (F.hK i)) opd_ix (q_of (d_var 2)) (q_of d_int))) (q_of d_str)) d_int d_int))))) hS (blkOk_by (by decide +kernel)) (g_name (F.blk _) 8) gk_name ts_nil (d_and (F.blk _) (d_isi (F.blk _) "str" (q_of (d_var 8)) (fun _ => T.n_isinstance) (fun _ => T.n_str) isiT_str (by decide +kernel)) (d_one (d_cmp (fun i => op_ins ((F.blk _).hK i) ((F.blk _).u65 i)) (opd_in false) (q_of (d_var 8)) (q_of (d_var 1))))))) b_nil))))) (ss_one
      (s_ret d_int)) ss_nil)
      (ss_cons
      (s_if (w_pt (w_and (t_cmp (fun i => op_ins (F.hK i) (F.u65 i)) (opd_in false) (q_of (d_ix (fun i => ix_seqK (F.hK i)) opd_ix (q_of (d_var 2)) (q_of d_int))) (q_of (d_tup (a_cons d_str (a_cons d_str a_nil))))) (w_and1 (t_not (t_tru F (q_of (d_call (fun _ => G_law_from) (fun i => (F.room i).mono (by omega)) (fun _ => T.g_law_from) (fun _ => T.k_law_from) (fun _ => T.b_law_from) (a_cons (d_ix (fun i => ix_seqK (F.hK i)) opd_ix (q_of (d_var 2)) (q_of d_int)) (a_cons d_int (a_cons (d_op (fun i => op_adds (F.hK i)) opd_add (q_of d_int) (q_of (d_ty (fun _ => call_int1) crd_int (fun _ => T.n_int) (by decide +kernel) (b_cons (q_of (d_cmp (fun i => op_eqK (F.hK i) (F.u64 i)) opd_eq (q_of (d_ix (fun i => ix_seqK (F.hK i)) opd_ix (q_of (d_var 2)) (q_of d_int))) (q_of d_str))) b_nil)))) a_nil))) (len_cons (len_cons (len_cons len_nil)))))))))) (ss_one
      (s_ret d_int)) ss_nil)
      (ss_one
      (s_ret d_int)))))))))))

/-! is_part, level 3 -/
theorem sc_is_part : FnScope ["ground", "columns", "thing", "word", "kind", "part"] ["ground", "columns", "thing"] (defScope s_is_part) := ⟨rfl, rfl, rfl, by decide +kernel, rfl, by decide +kernel, by decide +kernel⟩
def lb1_is_part : En → Option Fl :=
    (mSeq
    (mIfS (mAndT (mTst (mBin dEq (mVar 4) (mC (.str "column")))) (mTst (mBin (dIn true) (mVar 5) (mVar 1)))) (mRet (mC (.bool false))) mNext)
    (mIfS (mAndT (mTst (mBin dEq (mVar 4) (mC (.str "value")))) (mNotT (mTru (mCB fm_is_whole_within (mCons (mVar 5) (mCons (mC (.int 0)) (mCons (mUn (getTab tab_MOST_VALUES) (mVar 3)) mNil))))))) (mRet (mC (.bool false))) mNext))
def mb_is_part : En → Option Fl :=
    (mSeq
    (mIfS (mNotT (mTru (mCB fm_has_form (mCons (mVar 2) mNil)))) (mRet (mC (.bool false))) mNext)
    (mSeq
    (mAsg (mBin dIx (mVar 2) (mC (.int 0))) (gB 3))
    (mSeq
    (mIfS (mAndT (mTst (mBin dEq (mVar 3) (mC (.str "has")))) (mNotT (mTru (mCB fm_names_table (mCons (mVar 0) (mCons (mVar 2) mNil)))))) (mRet (mC (.bool false))) mNext)
    (mSeq
    (mFor (mRng zpd (mCons (mUn (getTab tab_FORMS) (mVar 3)) (mCons (mSl (mVar 2) (mPart (mC (.int 1))) mNoPart) mNil))) (gT 2 (gsC (gB 4) (gsC (gB 5) gsN))) lb1_is_part)
    (mRet (mC (.bool true)))))))
def fm_is_part : List PyData → Option PyData := runB 6 mb_is_part
theorem ok_is_part {P : Program} {w : World} {K : PySem.W.Frag} {mg : Str → Option Value} {base : Heap} (T : Txt K mg w) (G_is_whole_within : FnOk P w K mg base CX0 2 T.f_is_whole_within T.fd_is_whole_within ["thing", "least", "most"] (spD K 3 fm_is_whole_within)) (G_names_table : FnOk P w K mg base CX0 2 T.f_names_table T.fd_names_table ["ground", "thing"] (spD K 2 fm_names_table)) (G_has_form : FnOk P w K mg base CX0 2 T.f_has_form T.fd_has_form ["thing"] (spD K 1 fm_has_form)) : FnOk P w K mg base CX0 3 T.f_is_part T.fd_is_part ["ground", "columns", "thing"] (spD K 3 fm_is_part) := by
  have F := defF_fam (P := P) (w := w) (K := K) (mg := mg) (base := base) (qual := "is_part") (sc := defScope s_is_part) (f := T.f_is_part) (j := 2) sc_is_part.nd
  have hS := fun i => (rfl : (defF P w K mg base ["ground", "columns", "thing", "word", "kind", "part"] "is_part" (defScope s_is_part) T.f_is_part 2 i).env.scope = defScope s_is_part)
  exact fn_data (M := []) T.F_is_part sc_is_part (by decide)
      (ss_cons
      (s_if (t_not (t_tru F (q_of (d_call (fun _ => G_has_form) (fun i => (F.room i).mono (by omega)) (fun _ => T.g_has_form) (fun _ => T.k_has_form) (fun _ => T.b_has_form) (a_cons (d_var 2) a_nil) (len_cons len_nil))))) (ss_one
      (s_ret d_bl)) ss_nil)
      (ss_cons
      (s_set F 3 (d_ix (fun i => ix_seqK (F.hK i)) opd_ix (q_of (d_var 2)) (q_of d_int)))
      (ss_cons
      (s_if (w_pt (w_and (t_cmp (fun i => op_eqK (F.hK i) (F.u64 i)) opd_eq (q_of (d_var 3)) (q_of d_str)) (w_and1 (t_not (t_tru F (q_of (d_call (fun _ => G_names_table) (fun i => (F.room i).mono (by omega)) (fun _ => T.g_names_table) (fun _ => T.k_names_table) (fun _ => T.b_names_table) (a_cons (d_var 0) (a_cons (d_var 2) a_nil)) (len_cons (len_cons len_nil))))))))) (ss_one
      (s_ret d_bl)) ss_nil)
      (ss_cons
      (s_for F (fun _ => PassesOwn.never) (i_zip F (fun _ => T.n_zip) (a_cons (d_getK F T.kd_FORMS (d_var 3) (fun _ => pe_glob rfl T.mg_FORMS rfl)) (a_cons (d_sl F (q_of (d_var 2)) (o_some d_int) o_none) a_nil))) (g_tup F (gs_cons (g_name F 4) (gs_cons (g_name F 5) gs_nil))) (ss_cons
      (s_if (w_pt (w_and (t_cmp (fun i => op_eqK (F.hK i) (F.u64 i)) opd_eq (q_of (d_var 4)) (q_of d_str)) (w_and1 (t_cmp (fun i => op_notIns (F.hK i) (F.u65 i)) (opd_in true) (q_of (d_var 5)) (q_of (d_var 1)))))) (ss_one
      (s_ret d_bl)) ss_nil)
      (ss_one
      (s_if (w_pt (w_and (t_cmp (fun i => op_eqK (F.hK i) (F.u64 i)) opd_eq (q_of (d_var 4)) (q_of d_str)) (w_and1 (t_not (t_tru F (q_of (d_call (fun _ => G_is_whole_within) (fun i => (F.room i).mono (by omega)) (fun _ => T.g_is_whole_within) (fun _ => T.k_is_whole_within) (fun _ => T.b_is_whole_within) (a_cons (d_var 5) (a_cons d_int (a_cons (d_getK F T.kd_MOST_VALUES (d_var 3) (fun _ => pe_glob rfl T.mg_MOST_VALUES rfl)) a_nil))) (len_cons (len_cons (len_cons len_nil)))))))))) (ss_one
      (s_ret d_bl)) ss_nil))))
      (ss_one
      (s_ret d_bl))))))

/-! law_ground, level 3 -/
theorem sc_law_ground : FnScope ["picks", "top", "found", "left", "k", "some", "key", "name", "columns", "room", "one"] ["picks", "top"] (defScope s_law_ground) := ⟨rfl, rfl, rfl, by decide +kernel, rfl, by decide +kernel, by decide +kernel⟩
def le1_law_ground : En → Option PyData :=
    (mBin dIx (mVar 10) (mC (.int 0)))
def le2_law_ground : En → Option PyData :=
    (mBin dIx (mVar 10) (mC (.int 2)))
def le3_law_ground : En → Option PyData :=
    (mBin dIx (mVar 10) (mC (.int 2)))
def lb1_law_ground : En → Option Fl :=
    (mSeq
    (mAsg (mSl (mVar 0) (mPart (mBin dAdd (mC (.int 1)) (mBin dMul (mC (.int 36)) (mVar 4)))) (mPart (mBin dAdd (mC (.int 37)) (mBin dMul (mC (.int 36)) (mVar 4))))) (gB 5))
    (mIfS (mTst (mBin dGt (mVar 3) (mC (.int 0)))) (mSeq
    (mAsg (mCB fm_law_columns (mCons (mSl (mVar 5) (mPart (mC (.int 7))) mNoPart) (mCons (mBin dAdd (mC (.int 1)) (mBin dMod (mBin dIx (mVar 5) (mC (.int 5))) (mC (.int 4)))) (mCons (mVar 3) mNil)))) (gT 2 (gsC (gB 8) (gsC (gB 9) gsN))))
    (mSeq
    (mAsg (mIf (mTru (mCB bAny (mCons (mLc [10] (mIt (mVar 8)) (gB 10) mYes le2_law_ground) mNil))) (mIndex (mLc [10] (mIt (mVar 8)) (gB 10) mYes le3_law_ground) (mC (.bool true))) (mCB bLen (mCons (mVar 8) mNil))) (gB 6))
    (mSeq
    (mAsg (mCB fm_law_name (mCons (mVar 5) (mCons (mLc [10] (mIt (mVar 2)) (gB 10) mYes le1_law_ground) mNil))) (gB 7))
    (mSeq
    (mApp 2 (mTup (mCons (mVar 7) (mCons (mBin dMod (mBin dIx (mVar 5) (mC (.int 6))) (mBin dAdd (mVar 6) (mC (.int 1)))) (mCons (mVar 8) mNil)))))
    (mAsg (mBin dSub (mVar 3) (mVar 9)) (gB 3)))))) mNext))
def mb_law_ground : En → Option Fl :=
    (mSeq
    (mAsg (mLst mNil) (gB 2))
    (mSeq
    (mAsg (mVar 1) (gB 3))
    (mSeq
    (mFor (mRng rng1 (mCons (mBin dAdd (mC (.int 1)) (mBin dMod (mBin dIx (mVar 0) (mC (.int 0))) (mC (.int 4)))) mNil)) (gB 4) lb1_law_ground)
    (mRet (mCB bTuple (mCons (mCB bSorted (mCons (mVar 2) mNil)) mNil))))))
def fm_law_ground : List PyData → Option PyData := runB 11 mb_law_ground
theorem ok_law_ground {P : Program} {w : World} {K : PySem.W.Frag} {mg : Str → Option Value} {base : Heap} (T : Txt K mg w) (G_law_name : FnOk P w K mg base CX0 1 T.f_law_name T.fd_law_name ["some", "taken"] (spD K 2 fm_law_name)) (G_law_columns : FnOk P w K mg base CX0 2 T.f_law_columns T.fd_law_columns ["picks", "many", "top"] (spD K 3 fm_law_columns)) : FnOk P w K mg base CX0 3 T.f_law_ground T.fd_law_ground ["picks", "top"] (spD K 2 fm_law_ground) := by
  have F := defF_fam (P := P) (w := w) (K := K) (mg := mg) (base := base) (qual := "_law_ground") (sc := defScope s_law_ground) (f := T.f_law_ground) (j := 2) sc_law_ground.nd
  have hS := fun i => (rfl : (defF P w K mg base ["picks", "top", "found", "left", "k", "some", "key", "name", "columns", "room", "one"] "_law_ground" (defScope s_law_ground) T.f_law_ground 2 i).env.scope = defScope s_law_ground)
  exact fn_data (M := [2]) T.F_law_ground sc_law_ground (by decide)
      (ss_cons
      (s_own F 2 f_nil)
      (ss_cons
      (s_set F 3 (d_var 1))
      (ss_cons
      (s_for F (fun _ => PassesOwn.never) (i_range1 (fun _ => T.n_range) (a_cons (d_op (fun i => op_adds (F.hK i)) opd_add (q_of d_int) (q_of (d_op (fun _ => op_mod) opd_mod (q_of (d_ix (fun i => ix_seqK (F.hK i)) opd_ix (q_of (d_var 0)) (q_of d_int))) (q_of d_int)))) a_nil)) (g_name F 4) (ss_cons
      (s_set F 5 (d_sl F (q_of (d_var 0)) (o_some (d_op (fun i => op_adds (F.hK i)) opd_add (q_of d_int) (q_of (d_op (fun _ => op_mulA) opd_mul (q_of d_int) (q_of (d_var 4)))))) (o_some (d_op (fun i => op_adds (F.hK i)) opd_add (q_of d_int) (q_of (d_op (fun _ => op_mulA) opd_mul (q_of d_int) (q_of (d_var 4))))))))
      (ss_one
      (s_if (t_cmp (fun _ => op_gt) opd_gt (q_of (d_var 3)) (q_of d_int)) (ss_cons
      (s_asg (d_call (fun _ => G_law_columns) (fun i => (F.room i).mono (by omega)) (fun _ => T.g_law_columns) (fun _ => T.k_law_columns) (fun _ => T.b_law_columns) (a_cons (d_sl F (q_of (d_var 5)) (o_some d_int) o_none) (a_cons (d_op (fun i => op_adds (F.hK i)) opd_add (q_of d_int) (q_of (d_op (fun _ => op_mod) opd_mod (q_of (d_ix (fun i => ix_seqK (F.hK i)) opd_ix (q_of (d_var 5)) (q_of d_int))) (q_of d_int)))) (a_cons (d_var 3) a_nil))) (len_cons (len_cons (len_cons len_nil)))) (g_tup F (gs_cons (g_name F 8) (gs_cons (g_name F 9) gs_nil))))
      (ss_cons
      (s_set F 6 (d_if (t_tru F (q_of (d_cb (fun i => cr_anyK (F.hK i) (F.calm i)) crd_any (fun _ => T.n_any) (by decide +kernel) (b_cons (q_of (d_lc F [("one", 10)] (i_weak (i_seq F (d_var 8))) hS (blkOk_by (by decide +kernel)) (g_name (F.blk _) 10) gk_name ts_nil (d_ix (fun i => ix_seqK ((F.blk _).hK i)) opd_ix (q_of (d_var 10)) (q_of d_int)))) b_nil)))) (have hA := (q_of (d_lc F [("one", 10)] (i_weak (i_seq F (d_var 8))) hS (blkOk_by (by decide +kernel)) (g_name (F.blk _) 10) gk_name ts_nil (d_ix (fun i => ix_seqK ((F.blk _).hK i)) opd_ix (q_of (d_var 10)) (q_of d_int)))); have hB := (q_of d_bl); d_index F hA hB (fun j => pe_bm PySem.F.plainAttrs_list PySem.F.slot_list_index PySem.F.type_list_index (mt_indexD (F.u65 j)) (hA.pe j) (pa_cons (hB.pe j) pa_nil))) (d_cb (fun i => cr_len (F.hK i)) crd_len (fun _ => T.n_len) (by decide +kernel) (b_cons (q_of (d_var 8)) b_nil))))
      (ss_cons
      (s_set F 7 (d_call (fun _ => G_law_name) (fun i => (F.room i).mono (by omega)) (fun _ => T.g_law_name) (fun _ => T.k_law_name) (fun _ => T.b_law_name) (a_cons (d_var 5) (a_cons (d_lc F [("one", 10)] (i_own F (q_var 2)) hS (blkOk_by (by decide +kernel)) (g_name (F.blk _) 10) gk_name ts_nil (d_ix (fun i => ix_seqK ((F.blk _).hK i)) opd_ix (q_of (d_var 10)) (q_of d_int))) a_nil)) (len_cons (len_cons len_nil))))
      (ss_cons
      (have hE := (d_tup (a_cons (d_var 7) (a_cons (d_op (fun _ => op_mod) opd_mod (q_of (d_ix (fun i => ix_seqK (F.hK i)) opd_ix (q_of (d_var 5)) (q_of d_int))) (q_of (d_op (fun i => op_adds (F.hK i)) opd_add (q_of (d_var 6)) (q_of d_int)))) (a_cons (d_var 8) a_nil)))); s_app F 2 hE (by decide) (fun j => ps_expr (pe_bm PySem.F.plainAttrs_list PySem.F.slot_list_append PySem.F.type_list_append mt_append (pv 2) (pa_cons (hE.pe j) pa_nil))))
      (ss_one
      (s_set F 3 (d_op (fun _ => op_sub) opd_sub (q_of (d_var 3)) (q_of (d_var 9))))))))) ss_nil))))
      (ss_one
      (s_ret (d_ty (fun i => cr_tuple (F.hK i)) crd_tuple (fun _ => T.n_tuple) (by decide +kernel) (b_cons (q_of (d_cb (fun i => cr_sortK (F.hK i) (F.u70 i)) crd_sorted (fun _ => T.n_sorted) (by decide +kernel) (b_cons (q_var 2) b_nil))) b_nil)))))))

/-! law_some_columns, level 3 -/
theorem sc_law_some_columns : FnScope ["picks", "ground", "names", "column"] ["picks", "ground"] (defScope s_law_some_columns) := ⟨rfl, rfl, rfl, by decide +kernel, rfl, by decide +kernel, by decide +kernel⟩
def le1_law_some_columns : En → Option PyData :=
    (mBin dIx (mVar 3) (mC (.int 0)))
def mb_law_some_columns : En → Option Fl :=
    (mSeq
    (mAsg (mLc [3] (mIt (mBin dIx (mBin dIx (mVar 1) (mBin dMod (mBin dIx (mVar 0) (mC (.int 0))) (mCB bLen (mCons (mVar 1) mNil)))) (mC (.int 2)))) (gB 3) mYes le1_law_some_columns) (gB 2))
    (mRet (mBin dAdd (mCB bTuple (mCons (mVar 2) mNil)) (mCB fm_law_new_names (mCons (mSl (mVar 0) (mPart (mC (.int 1))) mNoPart) (mCons (mBin dMod (mBin dIx (mVar 0) (mC (.int 6))) (mC (.int 4))) (mCons (mVar 2) mNil)))))))
def fm_law_some_columns : List PyData → Option PyData := runB 4 mb_law_some_columns
theorem ok_law_some_columns {P : Program} {w : World} {K : PySem.W.Frag} {mg : Str → Option Value} {base : Heap} (T : Txt K mg w) (G_law_new_names : FnOk P w K mg base CX0 2 T.f_law_new_names T.fd_law_new_names ["picks", "many", "taken"] (spD K 3 fm_law_new_names)) : FnOk P w K mg base CX0 3 T.f_law_some_columns T.fd_law_some_columns ["picks", "ground"] (spD K 2 fm_law_some_columns) := by
  have F := defF_fam (P := P) (w := w) (K := K) (mg := mg) (base := base) (qual := "_law_some_columns") (sc := defScope s_law_some_columns) (f := T.f_law_some_columns) (j := 2) sc_law_some_columns.nd
  have hS := fun i => (rfl : (defF P w K mg base ["picks", "ground", "names", "column"] "_law_some_columns" (defScope s_law_some_columns) T.f_law_some_columns 2 i).env.scope = defScope s_law_some_columns)
  exact fn_data (M := []) T.F_law_some_columns sc_law_some_columns (by decide)
      (ss_cons
      (s_setLc F 2 [("column", 3)] (i_weak (i_seq F (d_ix (fun i => ix_seqK (F.hK i)) opd_ix (q_of (d_ix (fun i => ix_seqK (F.hK i)) opd_ix (q_of (d_var 1)) (q_of (d_op (fun _ => op_mod) opd_mod (q_of (d_ix (fun i => ix_seqK (F.hK i)) opd_ix (q_of (d_var 0)) (q_of d_int))) (q_of (d_cb (fun i => cr_len (F.hK i)) crd_len (fun _ => T.n_len) (by decide +kernel) (b_cons (q_of (d_var 1)) b_nil))))))) (q_of d_int)))) hS (blkOk_by (by decide +kernel)) (g_name (F.blk _) 3) gk_name ts_nil (d_ix (fun i => ix_seqK ((F.blk _).hK i)) opd_ix (q_of (d_var 3)) (q_of d_int)))
      (ss_one
      (s_ret (d_op (fun i => op_adds (F.hK i)) opd_add (q_of (d_ty (fun i => cr_tuple (F.hK i)) crd_tuple (fun _ => T.n_tuple) (by decide +kernel) (b_cons (q_of (d_var 2)) b_nil))) (q_of (d_call (fun _ => G_law_new_names) (fun i => (F.room i).mono (by omega)) (fun _ => T.g_law_new_names) (fun _ => T.k_law_new_names) (fun _ => T.b_law_new_names) (a_cons (d_sl F (q_of (d_var 0)) (o_some d_int) o_none) (a_cons (d_op (fun _ => op_mod) opd_mod (q_of (d_ix (fun i => ix_seqK (F.hK i)) opd_ix (q_of (d_var 0)) (q_of d_int))) (q_of d_int)) (a_cons (d_var 2) a_nil))) (len_cons (len_cons (len_cons len_nil)))))))))

/-! all_parts, level 4 -/
theorem sc_all_parts : FnScope ["ground", "columns", "thing", "most", "found", "waiting", "within_has", "names", "part", "within", "over", "inner"] ["ground", "columns", "thing", "most"] (defScope s_all_parts) := ⟨rfl, rfl, rfl, by decide +kernel, rfl, by decide +kernel, by decide +kernel⟩
def le1_all_parts : En → Option PyData :=
    (mTup (mCons (mVar 10) (mCons (mVar 11) (mCons (mVar 6) mNil))))
def lt1_all_parts : En → Option Bool :=
    (mTru (mVar 5))
def lb1_all_parts : En → Option Fl :=
    (mSeq
    (mPop 5 (gT 3 (gsC (gB 7) (gsC (gB 8) (gsC (gB 9) gsN)))))
    (mSeq
    (mIfS (mOrT (mTst (mBin dEq (mCB bLen (mCons (mVar 4) mNil)) (mVar 3))) (mNotT (mTru (mCB fm_is_part (mCons (mVar 0) (mCons (mVar 7) (mCons (mVar 8) mNil))))))) (mRet (mC .none)) mNext)
    (mSeq
    (mApp 4 (mTup (mCons (mBin dIx (mVar 8) (mC (.int 0))) (mCons (mVar 9) mNil))))
    (mSeq
    (mAsg (mOr (mVar 9) (mBin dEq (mBin dIx (mVar 8) (mC (.int 0))) (mC (.str "has")))) (gB 6))
    (mExt 5 (mLc [10, 11] (mIt (mCB fm_parts_within (mCons (mVar 0) (mCons (mVar 7) (mCons (mVar 8) mNil))))) (gT 2 (gsC (gB 10) (gsC (gB 11) gsN))) mYes le1_all_parts))))))
def mb_all_parts : En → Option Fl :=
    (mSeq
    (mAsg (mLst mNil) (gB 4))
    (mSeq
    (mAsg (mLst (mCons (mTup (mCons (mVar 1) (mCons (mVar 2) (mCons (mC (.bool false)) mNil)))) mNil)) (gB 5))
    (mSeq
    (whileD lt1_all_parts lb1_all_parts 60)
    (mRet (mVar 4)))))
def fm_all_parts : List PyData → Option PyData := runB 12 mb_all_parts
theorem ok_all_parts {P : Program} {w : World} {K : PySem.W.Frag} {mg : Str → Option Value} {base : Heap} (T : Txt K mg w) (G_parts_within : FnOk P w K mg base CX0 2 T.f_parts_within T.fd_parts_within ["ground", "columns", "condition"] (spD K 3 fm_parts_within)) (G_is_part : FnOk P w K mg base CX0 3 T.f_is_part T.fd_is_part ["ground", "columns", "thing"] (spD K 3 fm_is_part)) : FnOk P w K mg base CX0 4 T.f_all_parts T.fd_all_parts ["ground", "columns", "thing", "most"] (spD K 4 fm_all_parts) := by
  have F := defF_fam (P := P) (w := w) (K := K) (mg := mg) (base := base) (qual := "all_parts") (sc := defScope s_all_parts) (f := T.f_all_parts) (j := 3) sc_all_parts.nd
  have hS := fun i => (rfl : (defF P w K mg base ["ground", "columns", "thing", "most", "found", "waiting", "within_has", "names", "part", "within", "over", "inner"] "all_parts" (defScope s_all_parts) T.f_all_parts 3 i).env.scope = defScope s_all_parts)
  exact fn_data (M := [4, 5]) T.F_all_parts sc_all_parts (by decide)
      (ss_cons
      (s_own F 4 f_nil)
      (ss_cons
      (s_own F 5 (f_lst (a_cons (d_tup (a_cons (d_var 1) (a_cons (d_var 2) (a_cons d_bl a_nil)))) a_nil)))
      (ss_cons
      (s_while 60 (fun _ => PassesOwn.never) (t_tru F (q_var 5)) (ss_cons
      (s_pop F 5 (g_tup F (gs_cons (g_name F 7) (gs_cons (g_name F 8) (gs_cons (g_name F 9) gs_nil)))) (fun j => pe_bm0 PySem.F.plainAttrs_list PySem.F.slot_list_pop PySem.F.type_list_pop mt_pop (pv 5)))
      (ss_cons
      (s_if (w_pt (w_or (t_cmp (fun i => op_eqK (F.hK i) (F.u64 i)) opd_eq (q_of (d_cb (fun i => cr_len (F.hK i)) crd_len (fun _ => T.n_len) (by decide +kernel) (b_cons (q_var 4) b_nil))) (q_of (d_var 3))) (w_or1 (t_not (t_tru F (q_of (d_call (fun _ => G_is_part) (fun i => (F.room i).mono (by omega)) (fun _ => T.g_is_part) (fun _ => T.k_is_part) (fun _ => T.b_is_part) (a_cons (d_var 0) (a_cons (d_var 7) (a_cons (d_var 8) a_nil))) (len_cons (len_cons (len_cons len_nil)))))))))) (ss_one
      (s_ret d_non)) ss_nil)
      (ss_cons
      (have hE := (d_tup (a_cons (d_ix (fun i => ix_seqK (F.hK i)) opd_ix (q_of (d_var 8)) (q_of d_int)) (a_cons (d_var 9) a_nil))); s_app F 4 hE (by decide) (fun j => ps_expr (pe_bm PySem.F.plainAttrs_list PySem.F.slot_list_append PySem.F.type_list_append mt_append (pv 4) (pa_cons (hE.pe j) pa_nil))))
      (ss_cons
      (s_set F 6 (d_or F (d_var 9) (d_one (d_cmp (fun i => op_eqK (F.hK i) (F.u64 i)) opd_eq (q_of (d_ix (fun i => ix_seqK (F.hK i)) opd_ix (q_of (d_var 8)) (q_of d_int))) (q_of d_str)))))
      (ss_one
      (have hE := f_lc F [("over", 10), ("inner", 11)] (i_weak (i_seq F (d_call (fun _ => G_parts_within) (fun i => (F.room i).mono (by omega)) (fun _ => T.g_parts_within) (fun _ => T.k_parts_within) (fun _ => T.b_parts_within) (a_cons (d_var 0) (a_cons (d_var 7) (a_cons (d_var 8) a_nil))) (len_cons (len_cons (len_cons len_nil)))))) hS (blkOk_by (by decide +kernel)) (g_tup (F.blk _) (gs_cons (g_name (F.blk _) 10) (gs_cons (g_name (F.blk _) 11) gs_nil))) (gk_tup (gk_cons1 (by decide) (gk_cons1 (by decide) gk_nil))) ts_nil (d_tup (a_cons (d_var 10) (a_cons (d_var 11) (a_cons (d_var 6) a_nil)))); s_ext F 5 hE (fun j => ps_expr (pe_bm PySem.F.plainAttrs_list PySem.F.slot_list_extend PySem.F.type_list_extend mt_extend (pv 5) (pa_cons (hE.pe j) pa_nil))))))))))
      (ss_one
      (s_retO 4)))))

/-! bounded_parts, level 5 -/
theorem sc_bounded_parts : FnScope ["ground", "columns", "thing", "parts"] ["ground", "columns", "thing"] (defScope s_bounded_parts) := ⟨rfl, rfl, rfl, by decide +kernel, rfl, by decide +kernel, by decide +kernel⟩
def mb_bounded_parts : En → Option Fl :=
    (mSeq
    (mAsg (mCB fm_all_parts (mCons (mVar 0) (mCons (mVar 1) (mCons (mVar 2) (mCons (mC c_MOST_CONDITIONS) mNil))))) (gB 3))
    (mRet (mIf (mOrT (mTst (mBin (dIs false) (mVar 3) (mC .none))) (mTst (mBin (dIn false) (mTup (mCons (mC (.str "has")) (mCons (mC (.bool true)) mNil))) (mVar 3)))) (mC .none) (mVar 3))))
def fm_bounded_parts : List PyData → Option PyData := runB 4 mb_bounded_parts
theorem ok_bounded_parts {P : Program} {w : World} {K : PySem.W.Frag} {mg : Str → Option Value} {base : Heap} (T : Txt K mg w) (G_all_parts : FnOk P w K mg base CX0 4 T.f_all_parts T.fd_all_parts ["ground", "columns", "thing", "most"] (spD K 4 fm_all_parts)) : FnOk P w K mg base CX0 5 T.f_bounded_parts T.fd_bounded_parts ["ground", "columns", "thing"] (spD K 3 fm_bounded_parts) := by
  have F := defF_fam (P := P) (w := w) (K := K) (mg := mg) (base := base) (qual := "bounded_parts") (sc := defScope s_bounded_parts) (f := T.f_bounded_parts) (j := 4) sc_bounded_parts.nd
  have hS := fun i => (rfl : (defF P w K mg base ["ground", "columns", "thing", "parts"] "bounded_parts" (defScope s_bounded_parts) T.f_bounded_parts 4 i).env.scope = defScope s_bounded_parts)
  exact fn_data (M := []) T.F_bounded_parts sc_bounded_parts (by decide)
      (ss_cons
      (s_set F 3 (d_call (fun _ => G_all_parts) (fun i => (F.room i).mono (by omega)) (fun _ => T.g_all_parts) (fun _ => T.k_all_parts) (fun _ => T.b_all_parts) (a_cons (d_var 0) (a_cons (d_var 1) (a_cons (d_var 2) (a_cons (d_glob T.dp_MOST_CONDITIONS (fun _ => pe_glob rfl T.mg_MOST_CONDITIONS T.rl_MOST_CONDITIONS)) a_nil)))) (len_cons (len_cons (len_cons (len_cons len_nil))))))
      (ss_one
      (s_ret (d_if (w_pt (w_or (t_cmp (fun _ => op_isB) (opd_is false) (q_of (d_var 3)) (q_of d_non)) (w_or1 (t_cmp (fun i => op_ins (F.hK i) (F.u65 i)) (opd_in false) (q_of (d_tup (a_cons d_str (a_cons d_bl a_nil)))) (q_of (d_var 3)))))) d_non (d_var 3)))))

/-! is_condition, level 6 -/
theorem sc_is_condition : FnScope ["ground", "columns", "thing"] ["ground", "columns", "thing"] (defScope s_is_condition) := ⟨rfl, rfl, rfl, by decide +kernel, rfl, by decide +kernel, by decide +kernel⟩
def mb_is_condition : En → Option Fl :=
    (mRet (mBin (dIs true) (mCB fm_bounded_parts (mCons (mVar 0) (mCons (mVar 1) (mCons (mVar 2) mNil)))) (mC .none)))
def fm_is_condition : List PyData → Option PyData := runB 3 mb_is_condition
theorem ok_is_condition {P : Program} {w : World} {K : PySem.W.Frag} {mg : Str → Option Value} {base : Heap} (T : Txt K mg w) (G_bounded_parts : FnOk P w K mg base CX0 5 T.f_bounded_parts T.fd_bounded_parts ["ground", "columns", "thing"] (spD K 3 fm_bounded_parts)) : FnOk P w K mg base CX0 6 T.f_is_condition T.fd_is_condition ["ground", "columns", "thing"] (spD K 3 fm_is_condition) := by
  have F := defF_fam (P := P) (w := w) (K := K) (mg := mg) (base := base) (qual := "is_condition") (sc := defScope s_is_condition) (f := T.f_is_condition) (j := 5) sc_is_condition.nd
  have hS := fun i => (rfl : (defF P w K mg base ["ground", "columns", "thing"] "is_condition" (defScope s_is_condition) T.f_is_condition 5 i).env.scope = defScope s_is_condition)
  exact fn_data (M := []) T.F_is_condition sc_is_condition (by decide)
      (ss_one
      (s_ret (d_cmp (fun _ => op_isNotB) (opd_is true) (q_of (d_call (fun _ => G_bounded_parts) (fun i => (F.room i).mono (by omega)) (fun _ => T.g_bounded_parts) (fun _ => T.k_bounded_parts) (fun _ => T.b_bounded_parts) (a_cons (d_var 0) (a_cons (d_var 1) (a_cons (d_var 2) a_nil))) (len_cons (len_cons (len_cons len_nil))))) (q_of d_non))))

/-! law_is_condition, level 23 -/
theorem sc_law_is_condition : FnScope ["ground", "columns", "thing", "many"] ["ground", "columns", "thing"] (defScope s_law_is_condition) := ⟨rfl, rfl, rfl, by decide +kernel, rfl, by decide +kernel, by decide +kernel⟩
def mb_law_is_condition : En → Option Fl :=
    (mSeq
    (mAsg (mCB (fm_law_sound 20) (mCons (mVar 0) (mCons (mVar 1) (mCons (mVar 2) (mCons (mC (.bool false)) (mCons (mC (.bool false)) mNil)))))) (gB 3))
    (mRet (mAnd (mBin dGt (mVar 3) (mC (.int 0))) (mBin dLt (mVar 3) (mC (.int 9))))))
def fm_law_is_condition : List PyData → Option PyData := runB 4 mb_law_is_condition
theorem ok_law_is_condition {P : Program} {w : World} {K : PySem.W.Frag} {mg : Str → Option Value} {base : Heap} (T : Txt K mg w) (G_law_sound : FnOk P w K mg base CX0 22 T.f_law_sound T.fd_law_sound ["ground", "columns", "thing", "plain", "inside"] (spD K 5 (fm_law_sound 20))) : FnOk P w K mg base CX0 23 T.f_law_is_condition T.fd_law_is_condition ["ground", "columns", "thing"] (spD K 3 fm_law_is_condition) := by
  have F := defF_fam (P := P) (w := w) (K := K) (mg := mg) (base := base) (qual := "_law_is_condition") (sc := defScope s_law_is_condition) (f := T.f_law_is_condition) (j := 22) sc_law_is_condition.nd
  have hS := fun i => (rfl : (defF P w K mg base ["ground", "columns", "thing", "many"] "_law_is_condition" (defScope s_law_is_condition) T.f_law_is_condition 22 i).env.scope = defScope s_law_is_condition)
  exact fn_data (M := []) T.F_law_is_condition sc_law_is_condition (by decide)
      (ss_cons
      (s_set F 3 (d_call (fun _ => G_law_sound) (fun i => (F.room i).mono (by omega)) (fun _ => T.g_law_sound) (fun _ => T.k_law_sound) (fun _ => T.b_law_sound) (a_cons (d_var 0) (a_cons (d_var 1) (a_cons (d_var 2) (a_cons d_bl (a_cons d_bl a_nil))))) (len_cons (len_cons (len_cons (len_cons (len_cons len_nil)))))))
      (ss_one
      (s_ret (d_and F (d_cmp (fun _ => op_gt) opd_gt (q_of (d_var 3)) (q_of d_int)) (d_one (d_cmp (fun i => op_ltAll (F.hK i) (F.u64 i)) opd_lt (q_of (d_var 3)) (q_of d_int)))))))

/-! law, level 53 -/
theorem sc_law : FnScope ["script", "cell", "picks", "ground", "columns", "condition", "once", "there", "inside", "held", "things", "thing", "one"] ["script"] (defScope s_law) := ⟨rfl, rfl, rfl, by decide +kernel, rfl, by decide +kernel, by decide +kernel⟩
def lb1_law : En → Option Fl :=
    (mIfS (mTst (mBin dNe (mCB bRepr (mCons (mCB fm_is_condition (mCons (mVar 3) (mCons (mVar 4) (mCons (mVar 11) mNil)))) mNil)) (mCB bRepr (mCons (mCB fm_law_is_condition (mCons (mVar 3) (mCons (mVar 4) (mCons (mVar 11) mNil)))) mNil)))) (mRet (mC (.bool false))) mNext)
def le1_law : En → Option PyData :=
    (mBin dIx (mVar 12) (mC (.int 0)))
def lb2_law : En → Option Fl :=
    (mSeq
    (mAsg (mCB fm_law_draws (mCons (mVar 1) (mCons (mC (.int 420)) (mCons (mC (.int 1000)) mNil)))) (gB 2))
    (mSeq
    (mAsg (mCB fm_law_ground (mCons (mVar 2) (mCons (mC (.int 1000)) mNil))) (gB 3))
    (mSeq
    (mAsg (mCB fm_law_some_columns (mCons (mSl (mVar 2) (mPart (mC (.int 150))) mNoPart) (mCons (mVar 3) mNil))) (gB 4))
    (mSeq
    (mAsg (mCB (fm_law_condition 12) (mCons (mSl (mVar 2) (mPart (mC (.int 170))) mNoPart) (mCons (mBin dAdd (mC (.int 1)) (mBin dMod (mBin dIx (mVar 2) (mC (.int 169))) (mC (.int 9)))) (mCons (mVar 3) (mCons (mVar 4) (mCons (mC (.str "lmh")) mNil)))))) (gB 5))
    (mSeq
    (mAsg (mCB (fm_law_spoilt 50) (mCons (mVar 5) (mCons (mSl (mVar 2) (mPart (mC (.int 240))) mNoPart) mNil))) (gB 6))
    (mSeq
    (mAsg (mBin dIx (mVar 3) (mBin dMod (mBin dIx (mVar 2) (mC (.int 300))) (mCB bLen (mCons (mVar 3) mNil)))) (gB 7))
    (mSeq
    (mAsg (mCB (fm_law_condition 12) (mCons (mSl (mVar 2) (mPart (mC (.int 310))) mNoPart) (mCons (mBin dAdd (mC (.int 1)) (mBin dMod (mBin dIx (mVar 2) (mC (.int 301))) (mC (.int 8)))) (mCons (mVar 3) (mCons (mLc [12] (mIt (mBin dIx (mVar 7) (mC (.int 2)))) (gB 12) mYes le1_law) (mCons (mC (.str "lmh")) mNil)))))) (gB 8))
    (mSeq
    (mAsg (mTup (mCons (mC (.str "has")) (mCons (mBin dIx (mVar 7) (mC (.int 0))) (mCons (mBin dIx (mVar 4) (mC (.int 0))) (mCons (mBin dIx (mBin dIx (mBin dIx (mVar 7) (mC (.int 2))) (mUn dNeg (mC (.int 1)))) (mC (.int 0))) (mCons (mVar 8) mNil)))))) (gB 9))
    (mSeq
    (mAsg (mLst (mCons (mVar 5) (mCons (mVar 6) (mCons (mCB (fm_law_spoilt 50) (mCons (mVar 6) (mCons (mSl (mVar 2) (mPart (mC (.int 280))) mNoPart) mNil))) (mCons (mTup (mCons (mC (.str "not")) (mCons (mVar 5) mNil))) (mCons (mTup (mCons (mC (.str "and")) (mCons (mVar 5) (mCons (mVar 6) mNil)))) mNil)))))) (gB 10))
    (mFor (mIt (mBin dAdd (mVar 10) (mLst (mCons (mVar 9) (mCons (mTup (mCons (mC (.str "or")) (mCons (mVar 9) (mCons (mTup (mCons (mC (.str "yes")) mNil)) mNil)))) (mCons (mCB (fm_law_spoilt 50) (mCons (mVar 9) (mCons (mSl (mVar 2) (mPart (mC (.int 370))) mNoPart) mNil))) (mCons (mCB bList (mCons (mVar 5) mNil)) mNil))))))) (gB 11) lb1_law))))))))))
def mb_law : En → Option Fl :=
    (mSeq
    (mFor (mIt (mBin dAdd (mLst (mCons (mCB fm_law_cell_at (mCons (mVar 0) (mCons (mC (.int 0)) mNil))) mNil)) (mSl (mVar 0) (mPart (mC (.int 1))) (mPart (mC (.int 10)))))) (gB 1) lb2_law)
    (mRet (mC (.bool true))))
def fm_law : List PyData → Option PyData := runB 13 mb_law
theorem ok_law {P : Program} {w : World} {K : PySem.W.Frag} {mg : Str → Option Value} {base : Heap} (T : Txt K mg w) (G_law_cell_at : FnOk P w K mg base CX0 1 T.f_law_cell_at T.fd_law_cell_at ["script", "k"] (spD K 2 fm_law_cell_at)) (G_law_spoilt : FnOk P w K mg base CX0 52 T.f_law_spoilt T.fd_law_spoilt ["thing", "picks"] (spD K 2 (fm_law_spoilt 50))) (G_is_condition : FnOk P w K mg base CX0 6 T.f_is_condition T.fd_is_condition ["ground", "columns", "thing"] (spD K 3 fm_is_condition)) (G_law_is_condition : FnOk P w K mg base CX0 23 T.f_law_is_condition T.fd_law_is_condition ["ground", "columns", "thing"] (spD K 3 fm_law_is_condition)) (G_law_condition : FnOk P w K mg base CX0 14 T.f_law_condition T.fd_law_condition ["picks", "parts", "ground", "columns", "ways"] (spD K 5 (fm_law_condition 12))) (G_law_some_columns : FnOk P w K mg base CX0 3 T.f_law_some_columns T.fd_law_some_columns ["picks", "ground"] (spD K 2 fm_law_some_columns)) (G_law_ground : FnOk P w K mg base CX0 3 T.f_law_ground T.fd_law_ground ["picks", "top"] (spD K 2 fm_law_ground)) (G_law_draws : FnOk P w K mg base CX0 1 T.f_law_draws T.fd_law_draws ["cell", "many", "base"] (spD K 3 fm_law_draws)) : FnOk P w K mg base CX0 53 T.f_law T.fd_law ["script"] (spD K 1 fm_law) := by
  have F := defF_fam (P := P) (w := w) (K := K) (mg := mg) (base := base) (qual := "law") (sc := defScope s_law) (f := T.f_law) (j := 52) sc_law.nd
  have hS := fun i => (rfl : (defF P w K mg base ["script", "cell", "picks", "ground", "columns", "condition", "once", "there", "inside", "held", "things", "thing", "one"] "law" (defScope s_law) T.f_law 52 i).env.scope = defScope s_law)
  exact fn_data (M := []) T.F_law sc_law (by decide)
      (ss_cons
      (s_for F (fun _ => PassesOwn.never) (i_seq F (d_op (fun i => op_adds (F.hK i)) opd_add (q_of (d_lst (a_cons (d_call (fun _ => G_law_cell_at) (fun i => (F.room i).mono (by omega)) (fun _ => T.g_law_cell_at) (fun _ => T.k_law_cell_at) (fun _ => T.b_law_cell_at) (a_cons (d_var 0) (a_cons d_int a_nil)) (len_cons (len_cons len_nil))) a_nil))) (q_of (d_sl F (q_of (d_var 0)) (o_some d_int) (o_some d_int))))) (g_name F 1) (ss_cons
      (s_set F 2 (d_call (fun _ => G_law_draws) (fun i => (F.room i).mono (by omega)) (fun _ => T.g_law_draws) (fun _ => T.k_law_draws) (fun _ => T.b_law_draws) (a_cons (d_var 1) (a_cons d_int (a_cons d_int a_nil))) (len_cons (len_cons (len_cons len_nil)))))
      (ss_cons
      (s_set F 3 (d_call (fun _ => G_law_ground) (fun i => (F.room i).mono (by omega)) (fun _ => T.g_law_ground) (fun _ => T.k_law_ground) (fun _ => T.b_law_ground) (a_cons (d_var 2) (a_cons d_int a_nil)) (len_cons (len_cons len_nil))))
      (ss_cons
      (s_set F 4 (d_call (fun _ => G_law_some_columns) (fun i => (F.room i).mono (by omega)) (fun _ => T.g_law_some_columns) (fun _ => T.k_law_some_columns) (fun _ => T.b_law_some_columns) (a_cons (d_sl F (q_of (d_var 2)) (o_some d_int) o_none) (a_cons (d_var 3) a_nil)) (len_cons (len_cons len_nil))))
      (ss_cons
      (s_set F 5 (d_call (fun _ => G_law_condition) (fun i => (F.room i).mono (by omega)) (fun _ => T.g_law_condition) (fun _ => T.k_law_condition) (fun _ => T.b_law_condition) (a_cons (d_sl F (q_of (d_var 2)) (o_some d_int) o_none) (a_cons (d_op (fun i => op_adds (F.hK i)) opd_add (q_of d_int) (q_of (d_op (fun _ => op_mod) opd_mod (q_of (d_ix (fun i => ix_seqK (F.hK i)) opd_ix (q_of (d_var 2)) (q_of d_int))) (q_of d_int)))) (a_cons (d_var 3) (a_cons (d_var 4) (a_cons d_str a_nil))))) (len_cons (len_cons (len_cons (len_cons (len_cons len_nil)))))))
      (ss_cons
      (s_set F 6 (d_call (fun _ => G_law_spoilt) (fun i => (F.room i).mono (by omega)) (fun _ => T.g_law_spoilt) (fun _ => T.k_law_spoilt) (fun _ => T.b_law_spoilt) (a_cons (d_var 5) (a_cons (d_sl F (q_of (d_var 2)) (o_some d_int) o_none) a_nil)) (len_cons (len_cons len_nil))))
      (ss_cons
      (s_set F 7 (d_ix (fun i => ix_seqK (F.hK i)) opd_ix (q_of (d_var 3)) (q_of (d_op (fun _ => op_mod) opd_mod (q_of (d_ix (fun i => ix_seqK (F.hK i)) opd_ix (q_of (d_var 2)) (q_of d_int))) (q_of (d_cb (fun i => cr_len (F.hK i)) crd_len (fun _ => T.n_len) (by decide +kernel) (b_cons (q_of (d_var 3)) b_nil)))))))
      (ss_cons
      (s_set F 8 (d_call (fun _ => G_law_condition) (fun i => (F.room i).mono (by omega)) (fun _ => T.g_law_condition) (fun _ => T.k_law_condition) (fun _ => T.b_law_condition) (a_cons (d_sl F (q_of (d_var 2)) (o_some d_int) o_none) (a_cons (d_op (fun i => op_adds (F.hK i)) opd_add (q_of d_int) (q_of (d_op (fun _ => op_mod) opd_mod (q_of (d_ix (fun i => ix_seqK (F.hK i)) opd_ix (q_of (d_var 2)) (q_of d_int))) (q_of d_int)))) (a_cons (d_var 3) (a_cons (d_lc F [("one", 12)] (i_weak (i_seq F (d_ix (fun i => ix_seqK (F.hK i)) opd_ix (q_of (d_var 7)) (q_of d_int)))) hS (blkOk_by (by decide +kernel)) (g_name (F.blk _) 12) gk_name ts_nil (d_ix (fun i => ix_seqK ((F.blk _).hK i)) opd_ix (q_of (d_var 12)) (q_of d_int))) (a_cons d_str a_nil))))) (len_cons (len_cons (len_cons (len_cons (len_cons len_nil)))))))
      (ss_cons
      (s_set F 9 (d_tup (a_cons d_str (a_cons (d_ix (fun i => ix_seqK (F.hK i)) opd_ix (q_of (d_var 7)) (q_of d_int)) (a_cons (d_ix (fun i => ix_seqK (F.hK i)) opd_ix (q_of (d_var 4)) (q_of d_int)) (a_cons (d_ix (fun i => ix_seqK (F.hK i)) opd_ix (q_of (d_ix (fun i => ix_seqK (F.hK i)) opd_ix (q_of (d_ix (fun i => ix_seqK (F.hK i)) opd_ix (q_of (d_var 7)) (q_of d_int))) (q_of (d_neg d_int)))) (q_of d_int)) (a_cons (d_var 8) a_nil)))))))
      (ss_cons
      (s_set F 10 (d_lst (a_cons (d_var 5) (a_cons (d_var 6) (a_cons (d_call (fun _ => G_law_spoilt) (fun i => (F.room i).mono (by omega)) (fun _ => T.g_law_spoilt) (fun _ => T.k_law_spoilt) (fun _ => T.b_law_spoilt) (a_cons (d_var 6) (a_cons (d_sl F (q_of (d_var 2)) (o_some d_int) o_none) a_nil)) (len_cons (len_cons len_nil))) (a_cons (d_tup (a_cons d_str (a_cons (d_var 5) a_nil))) (a_cons (d_tup (a_cons d_str (a_cons (d_var 5) (a_cons (d_var 6) a_nil)))) a_nil)))))))
      (ss_one
      (s_for F (fun _ => PassesOwn.never) (i_seq F (d_op (fun i => op_adds (F.hK i)) opd_add (q_of (d_var 10)) (q_of (d_lst (a_cons (d_var 9) (a_cons (d_tup (a_cons d_str (a_cons (d_var 9) (a_cons (d_tup (a_cons d_str a_nil)) a_nil)))) (a_cons (d_call (fun _ => G_law_spoilt) (fun i => (F.room i).mono (by omega)) (fun _ => T.g_law_spoilt) (fun _ => T.k_law_spoilt) (fun _ => T.b_law_spoilt) (a_cons (d_var 9) (a_cons (d_sl F (q_of (d_var 2)) (o_some d_int) o_none) a_nil)) (len_cons (len_cons len_nil))) (a_cons (d_ty (fun i => cr_list (F.hK i)) crd_list (fun _ => T.n_list) (by decide +kernel) (b_cons (q_of (d_var 5)) b_nil)) a_nil)))))))) (g_name F 11) (ss_one
      (s_if (t_cmp (fun i => op_neK (F.hK i) (F.u64 i)) opd_ne (q_of (d_cb (fun _ => cr_repr) crd_repr (fun _ => T.n_repr) (by decide +kernel) (b_cons (q_of (d_call (fun _ => G_is_condition) (fun i => (F.room i).mono (by omega)) (fun _ => T.g_is_condition) (fun _ => T.k_is_condition) (fun _ => T.b_is_condition) (a_cons (d_var 3) (a_cons (d_var 4) (a_cons (d_var 11) a_nil))) (len_cons (len_cons (len_cons len_nil))))) b_nil))) (q_of (d_cb (fun _ => cr_repr) crd_repr (fun _ => T.n_repr) (by decide +kernel) (b_cons (q_of (d_call (fun _ => G_law_is_condition) (fun i => (F.room i).mono (by omega)) (fun _ => T.g_law_is_condition) (fun _ => T.k_law_is_condition) (fun _ => T.b_law_is_condition) (a_cons (d_var 3) (a_cons (d_var 4) (a_cons (d_var 11) a_nil))) (len_cons (len_cons (len_cons len_nil))))) b_nil)))) (ss_one
      (s_ret d_bl)) ss_nil))))))))))))))
      (ss_one
      (s_ret d_bl)))

end Rv
namespace Rv
open PySem L2 PySem.Spec PyProof.Rows
/-! ### how a mirror is gone through -/
section
variable {m n : En → Option Fl} {me : En → Option PyData} {mt : En → Option Bool} {mi : En → Option (List PyData)} {env env' : En} {d : PyData} {r : Option Fl}
theorem ev_run {N : Nat} {ds : List PyData} {o : Option PyData} (h : (m (ds.map some ++ List.replicate (N - ds.length) none)) = some (.rt d)) (e : some d = o) : runB N m ds = o := by
  unfold runB
  rw [h]
  exact e
theorem ev_set {i : Nat} (h : me env = some d) (h2 : n (env.set i (some d)) = r) : mSeq (mAsg me (gB i)) n env = r := by
  unfold mSeq mAsg
  rw [h]
  exact h2
theorem ev_set1 {i : Nat} (h : me env = some d) (h2 : some (.nx (env.set i (some d))) = r) : mAsg me (gB i) env = r := by
  unfold mAsg
  rw [h]
  exact h2
theorem ev_bnd {b : PyData → En → Option En} (h : me env = some d) (hb : b d env = some env') (h2 : n env' = r) : mSeq (mAsg me b) n env = r := by
  unfold mSeq mAsg
  rw [h, Option.bind_some, hb]
  exact h2
theorem ev_bnd1 {b : PyData → En → Option En} (h : me env = some d) (hb : b d env = some env') (h2 : some (.nx env') = r) : mAsg me b env = r := by
  unfold mAsg
  rw [h, Option.bind_some, hb]
  exact h2
theorem ev_for {b : PyData → En → Option En} {lb : En → Option Fl} {ds : List PyData} (h : mi env = some ds) (hl : loopD b lb ds env = some (.nx env')) (h2 : n env' = r) : mSeq (mFor mi b lb) n env = r := by
  unfold mSeq mFor
  rw [h, Option.bind_some, hl]
  exact h2
theorem ev_for1 {b : PyData → En → Option En} {lb : En → Option Fl} {ds : List PyData} (h : mi env = some ds) (hl : loopD b lb ds env = some (.nx env')) (h2 : some (.nx env') = r) : mFor mi b lb env = r := by
  unfold mFor
  rw [h, Option.bind_some, hl]
  exact h2
theorem ev_ret (h : me env = some d) : mRet me env = some (.rt d) := by
  unfold mRet
  rw [h]
  rfl
theorem ev_if1T {p : En → Option Fl} (h : mt env = some true) (h2 : m env = r) : mIfS mt m p env = r := by
  unfold mIfS
  rw [h, Option.bind_some, if_pos rfl]
  exact h2
theorem ev_if1F {p : En → Option Fl} (h : mt env = some false) (h2 : p env = r) : mIfS mt m p env = r := by
  unfold mIfS
  rw [h, Option.bind_some, if_neg Bool.false_ne_true]
  exact h2
theorem ev_ifT {p : En → Option Fl} (h : mt env = some true) (hm : m env = some (.nx env')) (h2 : n env' = r) : mSeq (mIfS mt m p) n env = r := by
  unfold mSeq mIfS
  rw [h, Option.bind_some, if_pos rfl, hm]
  exact h2
theorem ev_ifF {p : En → Option Fl} (h : mt env = some false) (hm : p env = some (.nx env')) (h2 : n env' = r) : mSeq (mIfS mt m p) n env = r := by
  unfold mSeq mIfS
  rw [h, Option.bind_some, if_neg Bool.false_ne_true, hm]
  exact h2
theorem ev_ifR {p : En → Option Fl} (h : mt env = some true) (hm : m env = some (.rt d)) : mSeq (mIfS mt m p) n env = some (.rt d) := by
  unfold mSeq mIfS
  rw [h, Option.bind_some, if_pos rfl, hm]
  rfl
theorem ev_seq (h : m env = some (.nx env')) (h2 : n env' = r) : mSeq m n env = r := by
  unfold mSeq
  rw [h]
  exact h2
theorem ev_app {i : Nat} {ds : List PyData} (hl : mVar i env = some (.list ds)) (h : me env = some d) (hz : ds.length < sizeLine) : mApp i me env = some (.nx (env.set i (some (.list (ds ++ [d]))))) := by
  unfold mApp
  rw [hl, Option.bind_some, h]
  exact if_pos hz
theorem ev_lc {vs : List Nat} {b : PyData → En → Option En} {ds es : List PyData} (h : mi env = some ds) (hl : lcD b mt me (wipeD env vs) ds = some es) (hz : es.length ≤ sizeLine) : mLc vs mi b mt me env = some (.list es) := by
  unfold mLc
  rw [h, Option.bind_some, hl, Option.bind_some, if_pos hz]
theorem ev_bin {f : PyData → PyData → Option PyData} {ma mb : En → Option PyData} {a b : PyData} {o : Option PyData} (h1 : ma env = some a) (h2 : mb env = some b) (h3 : f a b = o) : mBin f ma mb env = o := by
  unfold mBin
  rw [h1, Option.bind_some, h2]
  exact h3
theorem ev_cb {f : List PyData → Option PyData} {ms : En → Option (List PyData)} {ds : List PyData} {o : Option PyData} (h1 : ms env = some ds) (h2 : f ds = o) : mCB f ms env = o := by
  unfold mCB
  rw [h1]
  exact h2
theorem ev_cons {ms : En → Option (List PyData)} {ds : List PyData} (h1 : me env = some d) (h2 : ms env = some ds) : mCons me ms env = some (d :: ds) := by
  unfold mCons
  rw [h1, Option.bind_some, h2]
  rfl
theorem ev_tup {ms : En → Option (List PyData)} {ds : List PyData} (h1 : ms env = some ds) (h2 : ds.length ≤ sizeLine) : mTup ms env = some (.tuple ds) := by
  unfold mTup
  rw [h1, Option.bind_some, if_pos h2]
theorem ev_lst {ms : En → Option (List PyData)} {ds : List PyData} (h1 : ms env = some ds) (h2 : ds.length ≤ sizeLine) : mLst ms env = some (.list ds) := by
  unfold mLst
  rw [h1, Option.bind_some, if_pos h2]
theorem ev_sl {ma : En → Option PyData} {ml mh : En → Option (Option Int)} {a : PyData} {lo hi : Option Int} {o : Option PyData} (h1 : ma env = some a) (h2 : ml env = some lo) (h3 : mh env = some hi) (h4 : dSl a lo hi = o) : mSl ma ml mh env = o := by
  unfold mSl
  rw [h1, Option.bind_some, h2, Option.bind_some, h3]
  exact h4
theorem ev_part {i : Int} (h : me env = some (.int i)) : mPart me env = some (some i) := by
  unfold mPart
  rw [h]
  rfl
theorem ev_iT {ma mb : En → Option PyData} {o : Option PyData} (h : mt env = some true) (h2 : ma env = o) : mIf mt ma mb env = o := by
  unfold mIf
  rw [h, Option.bind_some, if_pos rfl]
  exact h2
theorem ev_iF {ma mb : En → Option PyData} {o : Option PyData} (h : mt env = some false) (h2 : mb env = o) : mIf mt ma mb env = o := by
  unfold mIf
  rw [h, Option.bind_some, if_neg Bool.false_ne_true]
  exact h2
theorem ev_tst {b : Bool} (h : me env = some (.bool b)) : mTst me env = some b := by
  unfold mTst
  rw [h]
  rfl
theorem ev_tru {b : Bool} (h : me env = some d) (h2 : truD d = some b) : mTru me env = some b := by
  unfold mTru
  rw [h]
  exact h2
theorem ev_rng {f : List PyData → Option (List PyData)} {ms : En → Option (List PyData)} {ds : List PyData} {o : Option (List PyData)} (h1 : ms env = some ds) (h2 : f ds = o) : mRng f ms env = o := by
  unfold mRng
  rw [h1]
  exact h2
theorem ev_it {o : Option (List PyData)} (h1 : me env = some d) (h2 : itemsD d = o) : mIt me env = o := by
  unfold mIt
  rw [h1]
  exact h2
end
theorem rng1_ok {j : Int} (h0 : -(2 ^ 62) ≤ j) (h1 : j < 2 ^ 62) : rng1 [.int j] = some (rangeD 0 j.toNat) := by
  unfold rng1
  exact if_pos ⟨h0, h1⟩
theorem dAdd_int (i j : Int) : dAdd (.int i) (.int j) = some (.int (i + j)) := rfl
theorem dSub_int (i j : Int) : dSub (.int i) (.int j) = some (.int (i - j)) := rfl
theorem dMul_int {i j : Int} (h : CMulA i j) : dMul (.int i) (.int j) = some (.int (i * j)) := if_pos h
theorem dDiv_int {i j : Int} (h : CDivW i j) : dDiv (.int i) (.int j) = some (.int (i / j)) := if_pos h
theorem dMod_int {i j : Int} (h : 0 < j) : dMod (.int i) (.int j) = some (.int (i % j)) := if_pos h
theorem dGt_int (i j : Int) : dGt (.int i) (.int j) = some (.bool (decide (j < i))) := rfl
theorem dGe_int (i j : Int) : dGe (.int i) (.int j) = some (.bool (decide (j ≤ i))) := rfl
theorem dLt_int (i j : Int) : dLt (.int i) (.int j) = some (.bool (decide (i < j))) := rfl
theorem shaped_int (i : Int) : SeqAt.shaped (.int i) = true := rfl
theorem shaped_bool (b : Bool) : SeqAt.shaped (.bool b) = true := rfl
theorem dEq_int (i j : Int) : dEq (.int i) (.int j) = some (.bool (i == j)) := if_pos ⟨rfl, rfl⟩
theorem dNe_int (i j : Int) : dNe (.int i) (.int j) = some (.bool (!(i == j))) := if_pos ⟨rfl, rfl⟩
theorem gB_ap (i : Nat) (d : PyData) (env : En) : gB i d env = some (env.set i (some d)) := rfl
/-! ### plain mathematics -/
theorem loop_inv {bind : PyData → En → Option En} {body : En → Option Fl} (Inv : Nat → En → Prop) {ds : List PyData} {env : En} (h0 : Inv 0 env)
    (step : ∀ i d e, ds[i]? = some d → Inv i e → ∃ e1 e2, bind d e = some e1 ∧ (body e1 = some (.nx e2) ∨ body e1 = some (.ct e2)) ∧ Inv (i + 1) e2) : ∃ e', loopD bind body ds env = some (.nx e') ∧ Inv ds.length e' := by
  have go : ∀ (rest : List PyData) (i : Nat) (e : En), ds.drop i = rest → Inv i e → i ≤ ds.length → ∃ e', loopD bind body rest e = some (.nx e') ∧ Inv ds.length e' := fun rest => by
    induction rest with
    | nil =>
      intro i e hd hi hle
      have : i = ds.length := by
        have := List.drop_eq_nil_iff.mp hd
        omega
      subst this
      exact ⟨e, rfl, hi⟩
    | cons d rest ih =>
      intro i e hd hi hle
      have hlt : i < ds.length := by
        by_cases z : i < ds.length
        · exact z
        · rw [List.drop_of_length_le (by omega)] at hd
          cases hd
      rw [List.drop_eq_getElem_cons hlt] at hd
      injection hd with hd1 hd2
      obtain ⟨e1, e2, h1, h2, h3⟩ := step i d e (by rw [← hd1]; exact List.getElem?_eq_getElem hlt) hi
      obtain ⟨e', h4, h5⟩ := ih (i + 1) e2 hd2 h3 hlt
      refine ⟨e', ?_, h5⟩
      show ((bind d e).bind _) = _
      rw [h1, Option.bind_some]
      rcases h2 with h2 | h2
      · rw [h2, Option.bind_some]
        exact h4
      · rw [h2, Option.bind_some]
        exact h4
  exact go ds 0 env rfl h0 (Nat.zero_le _)
theorem rangeD_len (lo : Int) (n : Nat) : (rangeD lo n).length = n := by
  simp only [rangeD, List.length_map, List.length_range]
theorem rangeD_get {lo : Int} {n i : Nat} {d : PyData} (h : (rangeD lo n)[i]? = some d) : i < n ∧ d = .int (lo + (i : Int)) := by
  have hi : i < n := by
    have := (List.getElem?_eq_some_iff.mp h).1
    rw [rangeD_len] at this
    exact this
  unfold rangeD at h
  rw [List.getElem?_map, List.getElem?_range hi] at h
  cases h
  exact ⟨hi, rfl⟩
theorem loop_range {bind : PyData → En → Option En} {body : En → Option Fl} (Inv : Nat → En → Prop) {lo : Int} {n : Nat} {env : En} (h0 : Inv 0 env)
    (step : ∀ (i : Nat) e, i < n → Inv i e → ∃ e1 e2, bind (.int (lo + (i : Int))) e = some e1 ∧ (body e1 = some (.nx e2) ∨ body e1 = some (.ct e2)) ∧ Inv (i + 1) e2) : ∃ e', loopD bind body (rangeD lo n) env = some (.nx e') ∧ Inv n e' := by
  have := loop_inv (ds := rangeD lo n) Inv h0 fun i d e hd hi => by
    obtain ⟨h1, rfl⟩ := rangeD_get hd
    exact step i e h1 hi
  rw [rangeD_len] at this
  exact this
theorem lc_map {bind : PyData → En → Option En} {mt : En → Option Bool} {me : En → Option PyData} {env : En} {f : PyData → PyData} : ∀ {ds : List PyData}, (∀ d ∈ ds, ∃ e1, bind d env = some e1 ∧ mt e1 = some true ∧ me e1 = some (f d)) → lcD bind mt me env ds = some (ds.map f)
  | [], _ => rfl
  | d :: ds, h => by
    obtain ⟨e1, h1, h2, h3⟩ := h d List.mem_cons_self
    have ih := lc_map (f := f) (ds := ds) fun x hx => h x (List.mem_cons_of_mem _ hx)
    show ((bind d env).bind _) = _
    rw [h1, Option.bind_some, h2, Option.bind_some, if_pos rfl, h3, Option.bind_some, ih]
    rfl
theorem lc_filter {bind : PyData → En → Option En} {mt : En → Option Bool} {me : En → Option PyData} {env : En} {f : PyData → PyData} {p : PyData → Bool} : ∀ {ds : List PyData}, (∀ d ∈ ds, ∃ e1, bind d env = some e1 ∧ mt e1 = some (p d) ∧ me e1 = some (f d)) → lcD bind mt me env ds = some ((ds.filter p).map f)
  | [], _ => rfl
  | d :: ds, h => by
    obtain ⟨e1, h1, h2, h3⟩ := h d List.mem_cons_self
    have ih := lc_filter (f := f) (p := p) (ds := ds) fun x hx => h x (List.mem_cons_of_mem _ hx)
    show ((bind d env).bind _) = _
    rw [h1, Option.bind_some, h2, Option.bind_some]
    cases hp : p d with
    | true =>
      rw [if_pos rfl, h3, Option.bind_some, ih, List.filter_cons, if_pos hp]
      rfl
    | false =>
      rw [if_neg Bool.false_ne_true, ih, List.filter_cons, if_neg (by rw [hp]; exact Bool.false_ne_true)]
theorem cmulR {i j : Int} (h1 : -(2 ^ 64) < j) (h2 : j < 2 ^ 64) : CMulA i j := .inl (.inr ⟨h1, h2⟩)
theorem cmulL {i j : Int} (h1 : -(2 ^ 64) < i) (h2 : i < 2 ^ 64) : CMulA i j := .inl (.inl ⟨h1, h2⟩)
theorem cdivS {i j : Int} (h1 : 0 < j) (h2 : j < 2 ^ 62) : CDivW i j := wide_div (b := 62) h1 (by omega) (by decide) (by decide)
theorem line_big {n : Nat} (h : n ≤ 100000) : n ≤ sizeLine := Nat.le_trans h (by decide)
theorem line_lt {n : Nat} (h : n < 100000) : n < sizeLine := Nat.lt_of_lt_of_le h (by decide)
/-- sums -/
def sw (f : Nat → Int) : Nat → Int
  | 0 => 0
  | n + 1 => sw f n + f n
theorem sw_front (f : Nat → Int) : ∀ n, sw f (n + 1) = f 0 + sw (fun k => f (k + 1)) n
  | 0 => by simp [sw]
  | n + 1 => by
    rw [sw, sw_front f n, sw]
    omega
theorem sw_add (f g : Nat → Int) : ∀ n, sw (fun k => f k + g k) n = sw f n + sw g n
  | 0 => by simp [sw]
  | n + 1 => by
    rw [sw, sw, sw, sw_add f g n]
    omega
theorem sw_congr {f g : Nat → Int} : ∀ {n : Nat}, (∀ k, k < n → f k = g k) → sw f n = sw g n
  | 0, _ => rfl
  | n + 1, h => by rw [sw, sw, sw_congr fun k hk => h k (by omega), h n (by omega)]
theorem sw_mul (c : Int) (f : Nat → Int) : ∀ n, sw (fun k => c * f k) n = c * sw f n
  | 0 => by simp [sw]
  | n + 1 => by rw [sw, sw, sw_mul c f n, Int.mul_add]
theorem sw_zero : ∀ n, sw (fun _ => 0) n = 0
  | 0 => rfl
  | n + 1 => by rw [sw, sw_zero n]; rfl
theorem sw_list (f : Nat → Int) : ∀ n, ((List.range n).map f).sum = sw f n
  | 0 => rfl
  | n + 1 => by
    rw [List.range_succ, List.map_append, List.sum_append, sw_list f n, sw]
    simp
theorem sw_nonneg {f : Nat → Int} : ∀ {n : Nat}, (∀ k, k < n → 0 ≤ f k) → 0 ≤ sw f n
  | 0, _ => Int.le_refl _
  | n + 1, h => by
    rw [sw]
    have := sw_nonneg (f := f) (n := n) fun k hk => h k (by omega)
    have := h n (by omega)
    omega
theorem sw_le {f : Nat → Int} {b : Int} : ∀ {n : Nat}, (∀ k, k < n → f k ≤ b) → sw f n ≤ n * b
  | 0, _ => by simp [sw]
  | n + 1, h => by
    rw [sw]
    have h1 := sw_le (f := f) (b := b) (n := n) fun k hk => h k (by omega)
    have h2 := h n (by omega)
    have e : ((n + 1 : Nat) : Int) * b = (n : Int) * b + b := by
      rw [Int.natCast_add, Int.add_mul]
      simp
    rw [e]
    omega
/-- binomials -/
def bn : Nat → Nat → Int
  | _, 0 => 1
  | 0, _ + 1 => 0
  | n + 1, k + 1 => bn n k + bn n (k + 1)
theorem bn_zero (n : Nat) : bn n 0 = 1 := by cases n <;> rfl
theorem bn_step : ∀ (n m : Nat), ((m : Int) + 1) * bn n (m + 1) + m * bn n m = n * bn n m
  | 0, 0 => by simp [bn]
  | 0, m + 1 => by simp [bn]
  | n + 1, 0 => by
    have := bn_step n 0
    simp only [bn_zero, bn] at this ⊢
    simp at this ⊢
    omega
  | n + 1, m + 1 => by
    have i0 := bn_step n m
    have i1 := bn_step n (m + 1)
    simp only [bn]
    generalize bn n m = b0 at *
    generalize bn n (m + 1) = b1 at *
    generalize bn n (m + 1 + 1) = b2 at *
    push_cast at i0 i1 ⊢
    simp only [Int.add_mul, Int.mul_add, Int.one_mul, Int.mul_one] at i0 i1 ⊢
    omega
theorem bn_nonneg : ∀ (n m : Nat), 0 ≤ bn n m
  | n, 0 => by rw [bn_zero]; decide
  | 0, m + 1 => Int.le_refl _
  | n + 1, m + 1 => by
    have := bn_nonneg n m
    have := bn_nonneg n (m + 1)
    show 0 ≤ bn n m + bn n (m + 1)
    omega
theorem vander : ∀ (h g a : Nat), sw (fun k => bn h k * bn g (a - k)) (a + 1) = bn (h + g) a
  | 0, g, a => by
    rw [sw_front]
    have : sw (fun k => bn 0 (k + 1) * bn g (a - (k + 1))) a = 0 := by
      rw [sw_congr (g := fun _ => 0) fun k _ => by simp [bn]]
      exact sw_zero a
    rw [this, bn_zero, Nat.sub_zero, Nat.zero_add]
    omega
  | h + 1, g, 0 => by
    simp [sw, bn_zero]
  | h + 1, g, a + 1 => by
    have i0 := vander h g a
    have i1 := vander h g (a + 1)
    rw [sw_front] at i1 ⊢
    have e : sw (fun k => bn (h + 1) (k + 1) * bn g (a + 1 - (k + 1))) (a + 1) = sw (fun k => bn h k * bn g (a - k)) (a + 1) + sw (fun k => bn h (k + 1) * bn g (a + 1 - (k + 1))) (a + 1) := by
      rw [← sw_add]
      refine sw_congr fun k _ => ?_
      rw [Nat.add_sub_add_right]
      show (bn h k + bn h (k + 1)) * bn g (a - k) = _
      rw [Int.add_mul]
    rw [e, i0, bn_zero]
    rw [bn_zero] at i1
    have e2 : h + 1 + g = (h + g) + 1 := by omega
    rw [e2]
    show _ = bn (h + g) a + bn (h + g) (a + 1)
    rw [← i1]
    omega
/-! ### columns and tables as data -/
structure Col where
  name : Str
  size : Int
  op : Bool
def Col.enc (c : Col) : PyData := .tuple [.str c.name, .int c.size, .bool c.op]
def b2 (b : Bool) : Int := if b then 1 else 0
def Col.many (c : Col) : Int := c.size + b2 c.op
def Col.Ok (c : Col) : Prop := 1 ≤ c.size ∧ c.size ≤ 9
theorem b2_le (b : Bool) : 0 ≤ b2 b ∧ b2 b ≤ 1 := by cases b <;> decide
theorem Col.Ok.many {c : Col} (h : c.Ok) : 1 ≤ c.many ∧ c.many ≤ 10 := by
  have := b2_le c.op
  obtain ⟨h1, h2⟩ := h
  unfold Col.many
  omega
def prodM : List Col → Int
  | [] => 1
  | c :: cs => c.many * prodM cs
theorem prodM_app : ∀ (as bs : List Col), prodM (as ++ bs) = prodM as * prodM bs
  | [], bs => by simp [prodM]
  | c :: cs, bs => by
    show c.many * prodM (cs ++ bs) = c.many * prodM cs * prodM bs
    rw [prodM_app cs bs, Int.mul_assoc]
theorem prodM_pos : ∀ {cs : List Col}, (∀ c ∈ cs, c.Ok) → 1 ≤ prodM cs
  | [], _ => by simp [prodM]
  | c :: cs, h => by
    have h1 := (h c List.mem_cons_self).many.1
    have h2 := prodM_pos (cs := cs) fun x hx => h x (List.mem_cons_of_mem _ hx)
    show 1 ≤ c.many * prodM cs
    have := Int.mul_le_mul h1 h2 (by decide) (by omega)
    omega
structure Tab where
  name : Str
  key : Nat
  cols : List Col
def Tab.enc (t : Tab) : PyData := .tuple [.str t.name, .int t.key, .tuple (t.cols.map Col.enc)]
theorem cutD_take (xs : List PyData) (k : Nat) : cutD xs none (some (k : Int)) = xs.take k := by
  unfold cutD
  rw [HT.sIx_nat, HT.sIx_none, List.drop_zero, Nat.sub_zero]
  by_cases h : k ≤ xs.length
  · rw [Nat.min_eq_left h]
  · rw [Nat.min_eq_right (by omega), List.take_length, List.take_of_length_le (by omega)]
theorem cutD_drop (xs : List PyData) (k : Nat) : cutD xs (some (k : Int)) none = xs.drop k := by
  unfold cutD
  rw [HT.sIx_nat, HT.sIx_none]
  by_cases h : k ≤ xs.length
  · rw [Nat.min_eq_left h]
    refine List.take_of_length_le ?_
    rw [List.length_drop]
    omega
  · rw [Nat.min_eq_right (by omega), List.drop_length, List.drop_of_length_le (by omega), List.take_nil]
theorem cutD_mid (xs : List PyData) (a b : Nat) : cutD xs (some (a : Int)) (some (b : Int)) = (xs.drop a).take (b - a) := by
  unfold cutD
  rw [HT.sIx_nat, HT.sIx_nat]
  by_cases h : a ≤ xs.length
  · rw [Nat.min_eq_left h]
    by_cases h2 : b ≤ xs.length
    · rw [Nat.min_eq_left h2]
    · rw [Nat.min_eq_right (by omega), List.take_of_length_le (by rw [List.length_drop]; omega), List.take_of_length_le (by rw [List.length_drop]; omega)]
  · rw [Nat.min_eq_right (show xs.length ≤ a by omega), List.drop_length, List.drop_of_length_le (show xs.length ≤ a by omega), List.take_nil, List.take_nil]
/-! ### the law's drawn numbers -/
section
variable {env : En}
theorem ev_andT {ma mb : En → Option Bool} {b : Bool} (h : ma env = some true) (h2 : mb env = some b) : mAndT ma mb env = some b := by
  unfold mAndT
  rw [h, Option.bind_some, if_pos rfl]
  exact h2
theorem ev_andF {ma mb : En → Option Bool} (h : ma env = some false) : mAndT ma mb env = some false := by
  unfold mAndT
  rw [h, Option.bind_some, if_neg Bool.false_ne_true]
theorem ev_orT {ma mb : En → Option Bool} (h : ma env = some true) : mOrT ma mb env = some true := by
  unfold mOrT
  rw [h, Option.bind_some, if_pos rfl]
theorem ev_orF {ma mb : En → Option Bool} {b : Bool} (h : ma env = some false) (h2 : mb env = some b) : mOrT ma mb env = some b := by
  unfold mOrT
  rw [h, Option.bind_some, if_neg Bool.false_ne_true]
  exact h2
theorem ev_notT {ma : En → Option Bool} {b : Bool} (h : ma env = some b) : mNotT ma env = some (!b) := by
  unfold mNotT
  rw [h]
  rfl
end
def Dr (x : Int) : Prop := 0 ≤ x ∧ x < 1000
theorem draws_step {cell many rest st : Int} {fs : List Int} {z : Option PyData} {i : Nat} (hr : 0 ≤ rest) (hs0 : 0 ≤ st) (hs1 : st < 2305843009213693951) (hi : i ≤ 10000) (hf : fs.length ≤ 10000) (hd : ∀ x ∈ fs, Dr x) :
    ∃ (gs : List Int) (rest' st' : Int), lb1_law_draws [some (.int cell), some (.int many), some (.int 1000), some (.list (fs.map .int)), some (.int rest), some (.int st), some (.int (i : Int))] = some (.nx [some (.int cell), some (.int many), some (.int 1000), some (.list (gs.map .int)), some (.int rest'), some (.int st'), some (.int (i : Int))]) ∧
      gs.length = fs.length + (if 2 < i then 1 else 0) ∧ (∀ x ∈ gs, Dr x) ∧ 0 ≤ rest' ∧ 0 ≤ st' ∧ st' < 2305843009213693951 := by
  have hP : (0 : Int) < 2305843009213693951 := by decide
  generalize hst : (st * st + 48271 * st + (i : Int) + 1) % 2305843009213693951 = st2
  have h20 : 0 ≤ st2 := by rw [← hst]; exact Int.emod_nonneg _ (by decide)
  have h21 : st2 < 2305843009213693951 := by rw [← hst]; exact Int.emod_lt_of_pos _ hP
  have e1 : (mBin dMod (mBin dAdd (mBin dAdd (mBin dAdd (mBin dMul (mVar 5) (mVar 5)) (mBin dMul (mC (.int 48271)) (mVar 5))) (mVar 6)) (mC (.int 1))) (mC (.int 2305843009213693951))) [some (.int cell), some (.int many), some (.int 1000), some (.list (fs.map .int)), some (.int rest), some (.int st), some (.int (i : Int))] = some (.int st2) := by
    refine ev_bin (a := .int (st * st + 48271 * st + (i : Int) + 1)) (ev_bin (a := .int (st * st + 48271 * st + (i : Int))) (ev_bin (a := .int (st * st + 48271 * st)) (ev_bin (a := .int (st * st)) (b := .int (48271 * st)) (ev_bin rfl rfl (dMul_int (cmulL (by omega) (by omega)))) (ev_bin rfl rfl (dMul_int (cmulL (by decide) (by decide)))) (dAdd_int _ _)) rfl (dAdd_int _ _)) rfl (dAdd_int _ _)) rfl ?_
    rw [dMod_int hP, hst]
  have app : ∀ {e1 : En} {x : Int}, Dr x → ∀ y ∈ fs ++ [x], Dr y := fun hx y hy => by
    rcases List.mem_append.mp hy with h | h
    · exact hd y h
    · rw [List.mem_singleton.mp h]
      exact hx
  have lz : (fs.map PyData.int).length < sizeLine := line_lt (by rw [List.length_map]; omega)
  have am : ∀ x : Int, fs.map PyData.int ++ [.int x] = (fs ++ [x]).map PyData.int := fun x => by rw [List.map_append]; rfl
  unfold lb1_law_draws
  by_cases h2 : 2 < i
  · have t2 : (mTst (mBin dGt (mVar 6) (mC (.int 2)))) [some (.int cell), some (.int many), some (.int 1000), some (.list (fs.map .int)), some (.int rest), some (.int st2), some (.int (i : Int))] = some true := by
      refine ev_tst (ev_bin rfl rfl ?_)
      rw [dGt_int, decide_eq_true (by omega)]
    by_cases h3 : 0 < rest
    · refine ⟨fs ++ [rest % 1000], rest / 1000, st2, ?_, by rw [if_pos h2, List.length_append]; rfl, app (e1 := []) ⟨Int.emod_nonneg _ (by decide), Int.emod_lt_of_pos _ (by decide)⟩, Int.ediv_nonneg hr (by decide), h20, h21⟩
      refine ev_set e1 ?_
      refine ev_if1T (ev_andT t2 (ev_tst (ev_bin rfl rfl ?_))) ?_
      · rw [dGt_int, decide_eq_true h3]
      · refine ev_seq (ev_app (ds := fs.map .int) (d := .int (rest % 1000)) rfl (ev_bin rfl rfl (dMod_int (by decide))) lz) ?_
        refine ev_set1 (d := .int (rest / 1000)) (ev_bin rfl rfl (dDiv_int (cdivS (by decide) (by decide)))) ?_
        rw [am]
        rfl
    · refine ⟨fs ++ [st2 / 4096 % 1000], rest, st2, ?_, by rw [if_pos h2, List.length_append]; rfl, app (e1 := []) ⟨Int.emod_nonneg _ (by decide), Int.emod_lt_of_pos _ (by decide)⟩, hr, h20, h21⟩
      refine ev_set e1 ?_
      refine ev_if1F (ev_andT t2 (ev_tst (ev_bin rfl rfl ?_))) ?_
      · rw [dGt_int, decide_eq_false h3]
      · refine ev_if1T t2 ?_
        rw [ev_app (ds := fs.map .int) (d := .int (st2 / 4096 % 1000)) rfl (ev_bin (ev_bin rfl rfl (dDiv_int (cdivS (by decide) (by decide)))) rfl (dMod_int (by decide))) lz, am]
        rfl
  · have t2 : (mTst (mBin dGt (mVar 6) (mC (.int 2)))) [some (.int cell), some (.int many), some (.int 1000), some (.list (fs.map .int)), some (.int rest), some (.int st2), some (.int (i : Int))] = some false := by
      refine ev_tst (ev_bin rfl rfl ?_)
      rw [dGt_int, decide_eq_false (by omega)]
    refine ⟨fs, rest, st2, ?_, by rw [if_neg h2]; rfl, hd, hr, h20, h21⟩
    refine ev_set e1 ?_
    refine ev_if1F (ev_andF t2) (ev_if1F t2 rfl)
theorem draws_eq (cell : Int) (many : Nat) (hm : many ≤ 5000) : ∃ ns : List Int, fm_law_draws [.int cell, .int many, .int 1000] = some (.list (ns.map .int)) ∧ ns.length = many ∧ ∀ x ∈ ns, Dr x := by
  generalize hr : cell * (if (1000000000000000000 : Int) ≤ cell then 1 else 0) = rest
  have hr0 : 0 ≤ rest := by
    rw [← hr]
    split
    · omega
    · omega
  have loop : ∃ e', loopD (gB 6) lb1_law_draws (rangeD 0 (many + 3)) [some (.int cell), some (.int many), some (.int 1000), some (.list []), some (.int rest), some (.int (cell % 2305843009213693951)), none] = some (.nx e') ∧
      ∃ (fs : List Int) (rest st : Int) (z : Option PyData), e' = [some (.int cell), some (.int many), some (.int 1000), some (.list (fs.map .int)), some (.int rest), some (.int st), z] ∧ fs.length = many + 3 - 3 ∧ (∀ x ∈ fs, Dr x) ∧ 0 ≤ rest ∧ 0 ≤ st ∧ st < 2305843009213693951 := by
    refine loop_range (fun i e => ∃ (fs : List Int) (rest st : Int) (z : Option PyData), e = [some (.int cell), some (.int many), some (.int 1000), some (.list (fs.map .int)), some (.int rest), some (.int st), z] ∧ fs.length = i - 3 ∧ (∀ x ∈ fs, Dr x) ∧ 0 ≤ rest ∧ 0 ≤ st ∧ st < 2305843009213693951)
      ⟨[], rest, _, none, rfl, rfl, (fun _ h => absurd h (by simp)), hr0, Int.emod_nonneg _ (by decide), Int.emod_lt_of_pos _ (by decide)⟩ fun i e hi he => ?_
    obtain ⟨fs, rs, st, z, rfl, h1, h2, h3, h4, h5⟩ := he
    obtain ⟨gs, rs', st', g1, g2, g3, g4, g5, g6⟩ := draws_step (cell := cell) (many := many) (z := z) h3 h4 h5 (i := i) (by omega) (by omega) h2
    refine ⟨_, _, rfl, .inl ?_, gs, rs', st', some (.int (i : Int)), rfl, ?_, g3, g4, g5, g6⟩
    · rw [Int.zero_add]
      exact g1
    · rw [g2, h1]
      split <;> omega
  obtain ⟨e', h1, fs, rs, st, z, rfl, h2, h3, _⟩ := loop
  refine ⟨fs, ?_, by omega, h3⟩
  unfold fm_law_draws mb_law_draws
  refine ev_run (d := .list (fs.map .int)) ?_ rfl
  refine ev_set (d := .list []) (ev_lst rfl (Nat.zero_le _)) ?_
  refine ev_set (d := .int rest) (ev_bin (a := .int cell) (b := .int (if (1000000000000000000 : Int) ≤ cell then 1 else 0)) rfl (ev_cb (ds := [.bool (decide ((1000000000000000000 : Int) ≤ cell))]) (ev_cons (ev_bin (b := .int 1000000000000000000) rfl (ev_bin rfl rfl ?_) (dGe_int _ _)) rfl) ?_) ?_) ?_
  · show (if CPow 10 18 then some (PyData.int ((10 : Int) ^ (18 : Int).toNat)) else none) = _
    rw [if_pos (show CPow 10 18 from ⟨by decide, by decide, by decide⟩), show ((10 : Int) ^ (18 : Int).toNat) = 1000000000000000000 by decide]
  · show some (PyData.int (if decide ((1000000000000000000 : Int) ≤ cell) = true then 1 else 0)) = _
    by_cases h : (1000000000000000000 : Int) ≤ cell
    · rw [decide_eq_true h, if_pos rfl, if_pos h]
    · rw [decide_eq_false h, if_neg Bool.false_ne_true, if_neg h]
  · rw [dMul_int (cmulR (by split <;> decide) (by split <;> decide)), hr]
  refine ev_set (d := .int (cell % 2305843009213693951)) (ev_bin rfl rfl (dMod_int (by decide))) ?_
  refine ev_for (ds := rangeD 0 (many + 3)) ?_ h1 (ev_ret rfl)
  refine ev_rng (ev_cons (ev_bin rfl rfl (dAdd_int _ _)) rfl) ?_
  rw [rng1_ok (by omega) (by omega)]
  congr 2
/-! ### names -/
def mkS (cs : List Nat) : Str := ⟨cs.toArray⟩
theorem mkS_app (a b : List Nat) : mkS a ++ mkS b = mkS (a ++ b) := by
  show (⟨a.toArray ++ b.toArray⟩ : Str) = ⟨(a ++ b).toArray⟩
  rw [List.append_toArray]
theorem mkS_len (a : List Nat) : (mkS a).length = a.length := by
  show a.toArray.size = _
  rw [List.size_toArray]
theorem mkS_cps (a : List Nat) : (mkS a).cps.toList = a := rfl
theorem mkS_inj {a b : List Nat} (h : mkS a = mkS b) : a = b := by
  have : (mkS a).cps.toList = (mkS b).cps.toList := by rw [h]
  exact this
theorem cutS_mk (a : List Nat) (k : Nat) : cutS (mkS a) none (some (k : Int)) = mkS (a.take k) := by
  unfold cutS
  rw [HT.sIx_nat, HT.sIx_none, mkS_len]
  show mkS ((a.drop 0).take (min k a.length - 0)) = _
  rw [List.drop_zero, Nat.sub_zero]
  by_cases h : k ≤ a.length
  · rw [Nat.min_eq_left h]
  · rw [Nat.min_eq_right (by omega), List.take_length, List.take_of_length_le (by omega)]
def barL : List Str := ["rows", "view", "where", "keep", "named", "pairs", "both", "less", "count", "seal", "and", "or", "not", "mine", "empty", "loud", "yes", "has"]
def Lc (c : Nat) : Prop := 97 ≤ c ∧ c ≤ 122
structure NmOk (w : Str) : Prop where
  cs : ∃ cs : List Nat, w = mkS cs ∧ 1 ≤ cs.length ∧ cs.length ≤ 8 ∧ ∀ c ∈ cs, Lc c
  free : w ∉ barL
theorem shaped_str {cs : List Nat} (h : ∀ c ∈ cs, Lc c) : SeqAt.shaped (.str (mkS cs)) = true := by
  unfold SeqAt.shaped
  rw [Bool.and_eq_true]
  refine ⟨?_, rfl⟩
  show PySem.PyData.strOk (mkS cs) = true
  unfold PySem.PyData.strOk mkS
  rw [List.all_toArray, List.all_eq_true]
  intro c hc
  have := h c hc
  unfold Lc at this
  refine decide_eq_true ?_
  omega
theorem NmOk.shaped {w : Str} (h : NmOk w) : SeqAt.shaped (.str w) = true := by
  obtain ⟨cs, rfl, _, _, h4⟩ := h.cs
  exact shaped_str h4
theorem shaped_strs : ∀ {ws : List Str}, (∀ w ∈ ws, SeqAt.shaped (.str w) = true) → SeqAt.shaped (.list (ws.map .str)) = true := fun {ws} h => by
  unfold SeqAt.shaped
  rw [Bool.and_eq_true]
  have h1 : PyData.canLayAll0 (ws.map .str) = true := by
    induction ws with
    | nil => simp [PyData.canLayAll0]
    | cons w ws ih =>
      rw [List.map_cons, PyData.canLayAll0, Bool.and_eq_true]
      refine ⟨?_, ih fun x hx => h x (List.mem_cons_of_mem _ hx)⟩
      have := h w List.mem_cons_self
      unfold SeqAt.shaped at this
      rw [Bool.and_eq_true] at this
      exact this.1
  have h2 : PyData.depthAll (ws.map .str) = 0 := by
    clear h h1
    induction ws with
    | nil => simp [PyData.depthAll]
    | cons w ws ih =>
      rw [List.map_cons, PyData.depthAll, ih]
      simp [PyData.depth]
  refine ⟨by rw [PyData.canLay0]; exact h1, ?_⟩
  rw [PyData.depth, h2]
  rfl
theorem dIn_strs {neg : Bool} {w : Str} {ws : List Str} (h1 : SeqAt.shaped (.str w) = true) (h2 : ∀ x ∈ ws, SeqAt.shaped (.str x) = true) : dIn neg (.str w) (.list (ws.map .str)) = some (.bool (xor neg (decide (w ∈ ws)))) := by
  have e : (ws.map PyData.str).any (fun z => PyData.eqv z (.str w)) = decide (w ∈ ws) := by
    rw [List.any_map]
    clear h1 h2
    induction ws with
    | nil => simp
    | cons x ws ih =>
      rw [List.any_cons, ih]
      show (PyData.eqv (.str x) (.str w) || decide (w ∈ ws)) = decide (w ∈ x :: ws)
      rw [PyData.eqv]
      by_cases z : x = w
      · subst z
        simp
      · have z' : ¬ w = x := fun q => z q.symm
        simp [z, z']
  show (if SeqAt.shaped (.str w) = true ∧ SeqAt.shaped (.list (ws.map .str)) = true then some (PyData.bool (xor neg ((ws.map PyData.str).any fun z => PyData.eqv z (.str w)))) else none) = _
  rw [if_pos ⟨h1, shaped_strs h2⟩, e]
theorem codesL : (Str.ofString "abcdefghijklmnopqrstuvwxyz").cps.toList = (List.range 26).map (97 + ·) := by decide +kernel
theorem lenL : (Str.ofString "abcdefghijklmnopqrstuvwxyz").length ≤ sizeLine := by decide +kernel
theorem dIx_letters {j : Nat} (h : j < 26) : dIx (.str "abcdefghijklmnopqrstuvwxyz") (.int (j : Int)) = some (.str (mkS [97 + j])) := by
  show (if (Str.ofString "abcdefghijklmnopqrstuvwxyz").length ≤ sizeLine then (atI (Str.ofString "abcdefghijklmnopqrstuvwxyz").cps.toList (j : Int)).map fun c => PyData.str ⟨#[c]⟩ else none) = _
  rw [if_pos lenL, codesL, atI_nat (v := 97 + j) (by rw [List.getElem?_map, List.getElem?_range h]; rfl)]
  rfl
theorem dAdd_str {a b : List Nat} (h : a.length + b.length ≤ 1000) : dAdd (.str (mkS a)) (.str (mkS b)) = some (.str (mkS (a ++ b))) := by
  show (if (mkS a).length + (mkS b).length ≤ sizeLine then some (PyData.str (mkS a ++ mkS b)) else none) = _
  rw [if_pos (by rw [mkS_len, mkS_len]; exact line_big (by omega)), mkS_app]
theorem dAdd_list {xs ys : List PyData} (h : xs.length + ys.length ≤ 100000) : dAdd (.list xs) (.list ys) = some (.list (xs ++ ys)) := if_pos (line_big h)
theorem dIx_zero (x : PyData) (xs : List PyData) : dIx (.list (x :: xs)) (.int 0) = some x := by
  show atI (x :: xs) ((0 : Nat) : Int) = _
  exact atI_nat rfl
theorem barZ : ∀ b ∈ barL, b.cps.toList.getLast? ≠ some 122 := by decide +kernel
theorem barShape : ∀ b ∈ barL, SeqAt.shaped (.str b) = true := by
  intro b hb
  have : PySem.PyData.strOk b = true := by
    revert b
    decide +kernel
  unfold SeqAt.shaped
  rw [Bool.and_eq_true]
  exact ⟨this, rfl⟩
theorem nodup_sub {α : Type} [DecidableEq α] : ∀ {as bs : List α}, as.Nodup → (∀ a ∈ as, a ∈ bs) → as.length ≤ bs.length
  | [], bs, _, _ => Nat.zero_le bs.length
  | a :: as, bs, hn, hs => by
    have h1 := List.nodup_cons.mp hn
    have ha := hs a List.mem_cons_self
    have := nodup_sub (as := as) (bs := bs.erase a) h1.2 fun x hx => (List.mem_erase_of_ne fun (e : x = a) => h1.1 (by rw [← e]; exact hx)).mpr (hs x (List.mem_cons_of_mem _ hx))
    rw [List.length_erase_of_mem ha] at this
    have hp : 0 < bs.length := List.length_pos_of_mem ha
    rw [List.length_cons]
    omega
def cands (cs : List Nat) : List Str := mkS cs :: (List.range 26).map fun j => mkS (cs.take 6 ++ [97 + j] ++ [122])
theorem cands_name {cs : List Nat} (h1 : 1 ≤ cs.length) (h2 : cs.length ≤ 8) (h3 : ∀ c ∈ cs, Lc c) : ∀ w ∈ cands cs, ∃ ds : List Nat, w = mkS ds ∧ 1 ≤ ds.length ∧ ds.length ≤ 8 ∧ ∀ c ∈ ds, Lc c := fun w hw => by
  rcases List.mem_cons.mp hw with rfl | hw
  · exact ⟨cs, rfl, h1, h2, h3⟩
  · obtain ⟨j, hj, rfl⟩ := List.mem_map.mp hw
    have hj := List.mem_range.mp hj
    refine ⟨_, rfl, ?_, ?_, fun c hc => ?_⟩
    · simp
    · simp
      omega
    · rcases List.mem_append.mp hc with hc | hc
      · rcases List.mem_append.mp hc with hc | hc
        · exact h3 c (List.mem_of_mem_take hc)
        · rw [List.mem_singleton.mp hc]
          unfold Lc
          omega
      · rw [List.mem_singleton.mp hc]
        unfold Lc
        omega
theorem cands_free {cs : List Nat} {taken : List Str} (hl : taken.length ≤ 20) : ∃ w ∈ cands cs, w ∉ taken ∧ w ∉ barL := by
  by_cases h : ∃ w ∈ cands cs, w ∉ taken ∧ w ∉ barL
  · exact h
  · have hall : ∀ w ∈ (List.range 26).map fun j => mkS (cs.take 6 ++ [97 + j] ++ [122]), w ∈ taken := fun w hw => by
      by_cases z : w ∈ taken
      · exact z
      · refine absurd ⟨w, List.mem_cons_of_mem _ hw, z, fun hb => ?_⟩ h
        obtain ⟨j, _, rfl⟩ := List.mem_map.mp hw
        refine barZ _ hb ?_
        rw [mkS_cps, List.getLast?_append]
        rfl
    have hn : ((List.range 26).map fun j => mkS (cs.take 6 ++ [97 + j] ++ [122])).Nodup := by
      rw [List.nodup_iff_pairwise_ne, List.pairwise_map]
      refine List.Pairwise.imp (R := fun (a b : Nat) => a ≠ b) (S := fun a b => mkS (cs.take 6 ++ [97 + a] ++ [122]) ≠ mkS (cs.take 6 ++ [97 + b] ++ [122])) (fun {a b} hab => fun e => hab ?_) (List.nodup_iff_pairwise_ne.mp List.nodup_range)
      have e1 := mkS_inj e
      have e2 := List.append_cancel_right e1
      have e3 := List.append_cancel_left e2
      have e4 : 97 + a = 97 + b := by
        injection e3
      omega
    have := nodup_sub hn hall
    rw [List.length_map, List.length_range] at this
    omega
theorem splitB : Txt.split "rows view where keep named pairs both less count seal and or not mine empty loud yes has" " " = barL := by decide +kernel
theorem pick_get {some5 : List Int} {k : Nat} (h : k < some5.length) : dIx (.list (some5.map .int)) (.int (k : Int)) = some (.int (some5.getD k 0)) := by
  show atI _ _ = _
  refine atI_nat ?_
  simp only [List.getElem?_map, List.getD_eq_getElem?_getD, List.getElem?_eq_getElem h]
  rfl
theorem name_eq {ps : List Int} {taken : List Str} (hp : 5 ≤ ps.length) (ht : ∀ t ∈ taken, SeqAt.shaped (.str t) = true) (hl : taken.length ≤ 20) :
    ∃ w : Str, fm_law_name [.list (ps.map .int), .list (taken.map .str)] = some (.str w) ∧ NmOk w ∧ w ∉ taken := by
  generalize hn : (1 + ps.getD 0 0 % 8) = n
  have hn1 : 1 ≤ n ∧ n ≤ 8 := by
    have h1 := Int.emod_nonneg (ps.getD 0 0) (show (8 : Int) ≠ 0 by decide)
    have h2 := Int.emod_lt_of_pos (ps.getD 0 0) (show (0 : Int) < 8 by decide)
    omega
  have loop : ∀ size0 : Int, ∃ e', loopD (gB 5) lb1_law_name (rangeD 0 n.toNat) [some (.list (ps.map .int)), some (.list (taken.map .str)), some (.str "abcdefghijklmnopqrstuvwxyz"), some (.int size0), some (.str ""), none, none, none, none, none] = some (.nx e') ∧
      ∃ (cs : List Nat) (size : Int) (z : Option PyData), e' = [some (.list (ps.map .int)), some (.list (taken.map .str)), some (.str "abcdefghijklmnopqrstuvwxyz"), some (.int size), some (.str (mkS cs)), z, none, none, none, none] ∧ cs.length = n.toNat ∧ ∀ c ∈ cs, Lc c := by
    intro size0
    refine loop_range (fun i e => ∃ (cs : List Nat) (size : Int) (z : Option PyData), e = [some (.list (ps.map .int)), some (.list (taken.map .str)), some (.str "abcdefghijklmnopqrstuvwxyz"), some (.int size), some (.str (mkS cs)), z, none, none, none, none] ∧ cs.length = i ∧ ∀ c ∈ cs, Lc c)
      ⟨[], size0, none, rfl, rfl, fun _ h => absurd h (by simp)⟩ fun i e hi he => ?_
    obtain ⟨cs, size, z, rfl, h1, h2⟩ := he
    have j0 := Int.emod_nonneg size (show (26 : Int) ≠ 0 by decide)
    have j1 := Int.emod_lt_of_pos size (show (0 : Int) < 26 by decide)
    generalize hj : (size % 26).toNat = j
    have ej : size % 26 = (j : Int) := by omega
    refine ⟨_, _, rfl, .inl ?_, cs ++ [97 + j], size / 26, some (.int (0 + (i : Int))), rfl, by rw [List.length_append, h1]; rfl, fun c hc => ?_⟩
    · unfold lb1_law_name
      refine ev_set (d := .str (mkS (cs ++ [97 + j]))) (ev_bin (a := .str (mkS cs)) (b := .str (mkS [97 + j])) rfl (ev_bin (b := .int (j : Int)) rfl (ev_bin rfl rfl ?_) (dIx_letters (by omega))) (dAdd_str (by rw [h1]; simp; omega))) ?_
      · rw [dMod_int (by decide), ej]
      · exact ev_set1 (d := .int (size / 26)) (ev_bin rfl rfl (dDiv_int (cdivS (by decide) (by decide)))) rfl
    · rcases List.mem_append.mp hc with hc | hc
      · exact h2 c hc
      · rw [List.mem_singleton.mp hc]
        unfold Lc
        omega
  generalize hsz : (((ps.getD 1 0 * 1000 + ps.getD 2 0) * 1000 + ps.getD 3 0) * 1000 + ps.getD 4 0) = size0
  obtain ⟨e', h1, cs, size, z, rfl, h2, h3⟩ := loop size0
  have hc1 : 1 ≤ cs.length := by omega
  have hc2 : cs.length ≤ 8 := by omega
  have hcn := cands_name hc1 hc2 h3
  have hsh : ∀ w ∈ cands cs, SeqAt.shaped (.str w) = true := fun w hw => by
    obtain ⟨ds, rfl, _, _, h⟩ := hcn w hw
    exact shaped_str h
  have hfil : ∃ w r, ((cands cs).filter fun w => decide (w ∉ taken) && decide (w ∉ barL)) = w :: r := by
    obtain ⟨w, hw, h4, h5⟩ := cands_free (cs := cs) hl
    cases hf : ((cands cs).filter fun w => decide (w ∉ taken) && decide (w ∉ barL)) with
    | nil =>
      have := List.filter_eq_nil_iff.mp hf w hw
      simp [h4, h5] at this
    | cons w r => exact ⟨w, r, rfl⟩
  obtain ⟨w, r, hw⟩ := hfil
  have hwm : w ∈ (cands cs).filter fun w => decide (w ∉ taken) && decide (w ∉ barL) := by
    rw [hw]
    exact List.mem_cons_self
  obtain ⟨hwc, hwp⟩ := List.mem_filter.mp hwm
  simp only [Bool.and_eq_true, decide_eq_true_eq] at hwp
  refine ⟨w, ?_, ⟨hcn w hwc, hwp.2⟩, hwp.1⟩
  unfold fm_law_name mb_law_name
  refine ev_run (d := .str w) ?_ rfl
  refine ev_set (d := .str "abcdefghijklmnopqrstuvwxyz") rfl ?_
  refine ev_set (d := .int size0) ?_ ?_
  · refine ev_bin (ev_bin (ev_bin (ev_bin (ev_bin (ev_bin (ev_bin rfl rfl (pick_get (k := 1) (by omega))) rfl (dMul_int (cmulR (by decide) (by decide)))) (ev_bin rfl rfl (pick_get (k := 2) (by omega))) (dAdd_int _ _)) rfl (dMul_int (cmulR (by decide) (by decide)))) (ev_bin rfl rfl (pick_get (k := 3) (by omega))) (dAdd_int _ _)) rfl (dMul_int (cmulR (by decide) (by decide)))) (ev_bin rfl rfl (pick_get (k := 4) (by omega))) ?_
    rw [dAdd_int, hsz]
  refine ev_set (d := .str "") rfl ?_
  refine ev_for (ds := rangeD 0 n.toNat) ?_ h1 ?_
  · refine ev_rng (ev_cons (ev_bin rfl (ev_bin (ev_bin rfl rfl (pick_get (k := 0) (by omega))) rfl (dMod_int (by decide))) (dAdd_int _ _)) rfl) ?_
    rw [rng1_ok (by omega) (by omega), hn]
  refine ev_set (d := .str "rows view where keep named pairs both less count seal and or not mine empty loud yes has") rfl ?_
  refine ev_set (d := .list ((cands cs).map .str)) ?_ ?_
  · refine ev_bin (a := .list [.str (mkS cs)]) (b := .list (((List.range 26).map fun j => mkS (cs.take 6 ++ [97 + j] ++ [122])).map .str)) (ev_lst rfl (show 1 ≤ sizeLine by decide)) ?_ ?_
    · refine ev_lc (ds := ((List.range 26).map (97 + ·)).map fun c => .str ⟨#[c]⟩) ?_ (es := ((List.range 26).map fun j => mkS (cs.take 6 ++ [97 + j] ++ [122])).map .str) ?_ ?_
      · refine ev_it (d := .str "abcdefghijklmnopqrstuvwxyz") rfl ?_
        show some (List.map _ (Str.ofString "abcdefghijklmnopqrstuvwxyz").cps.toList) = _
        rw [codesL]
      · refine (lc_map (f := fun d => match d with | .str x => .str (mkS (cs.take 6 ++ x.cps.toList ++ [122])) | d => d) fun d hd => ?_).trans ?_
        · obtain ⟨c, hc, rfl⟩ := List.mem_map.mp hd
          refine ⟨_, rfl, rfl, ?_⟩
          unfold le2_law_name
          show mBin dAdd (mBin dAdd _ _) _ _ = some (.str (mkS (cs.take 6 ++ [c] ++ [122])))
          have l6 : (cs.take 6).length ≤ 6 := by rw [List.length_take]; omega
          refine ev_bin (a := .str (mkS (cs.take 6 ++ [c]))) (b := .str (mkS [122])) (ev_bin (a := .str (mkS (cs.take 6))) (b := .str (mkS [c])) (ev_sl (lo := none) (hi := some 6) rfl rfl (ev_part rfl) ?_) rfl (dAdd_str (by simp; omega))) rfl (dAdd_str (by simp; omega))
          show (if (mkS cs).length ≤ sizeLine then some (PyData.str (cutS (mkS cs) none (some 6))) else none) = _
          rw [if_pos (by rw [mkS_len]; exact line_big (by omega)), show (some (6 : Int)) = some ((6 : Nat) : Int) from rfl, cutS_mk]
        · rw [List.map_map, List.map_map, List.map_map]
          rfl
      · rw [List.length_map, List.length_map, List.length_range]
        decide
    · rw [dAdd_list (by rw [List.length_map, List.length_map, List.length_range]; show 1 + 26 ≤ 100000; decide)]
      rfl
  refine ev_ret ?_
  refine ev_bin (a := .list ((w :: r).map .str)) (b := .int 0) ?_ rfl (dIx_zero _ _)
  refine ev_lc (ds := (cands cs).map .str) rfl (es := (w :: r).map .str) ?_ ?_
  · refine (lc_filter (f := id) (p := fun d => match d with | .str x => decide (x ∉ taken) && decide (x ∉ barL) | _ => false) fun d hd => ?_).trans ?_
    · obtain ⟨x, hx, rfl⟩ := List.mem_map.mp hd
      refine ⟨_, rfl, ?_, ?_⟩
      · unfold lt1_law_name
        have t1 : (mTst (mBin (dIn true) (mVar 9) (mVar 1))) ([some (.list (ps.map .int)), some (.list (taken.map .str)), some (.str "abcdefghijklmnopqrstuvwxyz"), some (.int size), some (.str (mkS cs)), z, some (.str "rows view where keep named pairs both less count seal and or not mine empty loud yes has"), some (.list ((cands cs).map .str)), none, some (.str x)]) = some (!decide (x ∈ taken)) := by
          refine ev_tst (ev_bin rfl rfl ?_)
          rw [dIn_strs (hsh x hx) ht, Bool.true_xor]
        have t2 : (mTst (mBin (dIn true) (mVar 9) (mSplit (mVar 6) (mC (.str " "))))) ([some (.list (ps.map .int)), some (.list (taken.map .str)), some (.str "abcdefghijklmnopqrstuvwxyz"), some (.int size), some (.str (mkS cs)), z, some (.str "rows view where keep named pairs both less count seal and or not mine empty loud yes has"), some (.list ((cands cs).map .str)), none, some (.str x)]) = some (!decide (x ∈ barL)) := by
          refine ev_tst (ev_bin (b := .list (barL.map .str)) rfl ?_ ?_)
          · show (if ((Str.ofString " ").length == 0) = false ∧ (Str.ofString "rows view where keep named pairs both less count seal and or not mine empty loud yes has").length + 2 ≤ sizeLine then some (PyData.list ((Txt.split "rows view where keep named pairs both less count seal and or not mine empty loud yes has" " ").map .str)) else none) = _
            rw [if_pos (by decide +kernel), splitB]
          · rw [dIn_strs (hsh x hx) barShape, Bool.true_xor]
        show mAndT _ _ _ = some (decide (x ∉ taken) && decide (x ∉ barL))
        by_cases hxt : x ∈ taken
        · have e1 : decide (x ∉ taken) = false := decide_eq_false fun q => q hxt
          rw [e1, Bool.false_and]
          refine ev_andF (t1.trans ?_)
          rw [decide_eq_true hxt]
          rfl
        · have e1 : decide (x ∉ taken) = true := decide_eq_true hxt
          rw [e1, Bool.true_and]
          refine ev_andT (t1.trans ?_) (t2.trans ?_)
          · rw [decide_eq_false hxt]
            rfl
          · rw [decide_not]
      · unfold le1_law_name
        rfl
    · rw [List.map_id, List.filter_map]
      show some (((cands cs).filter fun w => decide (w ∉ taken) && decide (w ∉ barL)).map PyData.str) = _
      rw [hw]
  · have : (w :: r).length ≤ (cands cs).length := by
      rw [← hw]
      exact List.length_filter_le _ _
    rw [List.length_map]
    refine Nat.le_trans this (line_big ?_)
    unfold cands
    rw [List.length_cons, List.length_map, List.length_range]
    decide
/-! ### columns -/
theorem ev_orV {ma mb : En → Option PyData} {env : En} {a b : Bool} (h : ma env = some (.bool a)) (h2 : mb env = some (.bool b)) : mOr ma mb env = some (.bool (a || b)) := by
  unfold mOr
  rw [h, Option.bind_some]
  show (some a).bind _ = _
  rw [Option.bind_some]
  cases a with
  | true => rfl
  | false => exact h2
theorem ev_andV {ma mb : En → Option PyData} {env : En} {a b : Bool} (h : ma env = some (.bool a)) (h2 : mb env = some (.bool b)) : mAnd ma mb env = some (.bool (a && b)) := by
  unfold mAnd
  rw [h, Option.bind_some]
  show (some a).bind _ = _
  rw [Option.bind_some]
  cases a with
  | true => exact h2
  | false => rfl
theorem bInt_bool (b : Bool) : bInt [.bool b] = some (.int (b2 b)) := by cases b <;> rfl
theorem slice_ints {ps : List Int} {a b : Nat} {lo hi : Int} (h1 : lo = (a : Int)) (h2 : hi = (b : Int)) : dSl (.list (ps.map .int)) (some lo) (some hi) = some (.list (((ps.drop a).take (b - a)).map .int)) := by
  subst h1 h2
  show some (PyData.list (cutD _ _ _)) = _
  rw [cutD_mid, List.map_take, List.map_drop]
theorem slice_ints_from {ps : List Int} {a : Nat} {lo : Int} (h1 : lo = (a : Int)) : dSl (.list (ps.map .int)) (some lo) none = some (.list ((ps.drop a).map .int)) := by
  subst h1
  show some (PyData.list (cutD _ _ _)) = _
  rw [cutD_drop, List.map_drop]
def ColsOk (cs : List Col) : Prop := (∀ c ∈ cs, c.Ok ∧ NmOk c.name) ∧ (cs.map Col.name).Nodup
theorem cols_names {cs : List Col} {env : En} {vs : List Nat} {lb : En → Option PyData} {i j : Nat} (hm : mVar i env = some (.list (cs.map Col.enc))) (hz : cs.length ≤ 1000) (he : ∀ c : Col, lb ((wipeD env vs).set j (some c.enc)) = some (.str c.name)) : mLc vs (mIt (mVar i)) (gB j) mYes lb env = some (.list ((cs.map Col.name).map .str)) := by
  refine ev_lc (ds := cs.map Col.enc) (ev_it hm rfl) (es := (cs.map Col.name).map .str) ?_ (by rw [List.length_map, List.length_map]; exact line_big (by omega))
  refine (lc_map (f := fun d => match d with | .tuple (x :: _) => x | d => d) fun d hd => ?_).trans ?_
  · obtain ⟨c, hc, rfl⟩ := List.mem_map.mp hd
    exact ⟨_, gB_ap _ _ _, rfl, he c⟩
  · rw [List.map_map, List.map_map]
    rfl
theorem columns_step {ps : List Int} {many : Nat} {top : Int} {cs : List Col} {z6 z7 z8 : Option PyData} {k : Nat} (hk : k < many) (hp : 7 * many ≤ ps.length) (hd : ∀ x ∈ ps, Dr x) (ht : top ≤ 100000) (hc : ColsOk cs) (hl : cs.length = k) (hk4 : many ≤ 8) (hr : prodM cs ≤ top) :
    ∃ (c : Col) (y6 y7 y8 : Option PyData), lb1_law_columns [some (.list (ps.map .int)), some (.int many), some (.int top), some (.list (cs.map Col.enc)), some (.int (prodM cs)), some (.int (k : Int)), z6, z7, z8, none] = some (.nx [some (.list (ps.map .int)), some (.int many), some (.int top), some (.list ((cs ++ [c]).map Col.enc)), some (.int (prodM (cs ++ [c]))), some (.int (k : Int)), y6, y7, y8, none]) ∧ ColsOk (cs ++ [c]) ∧ prodM (cs ++ [c]) ≤ top := by
  have hpos := prodM_pos (cs := cs) fun c h => (hc.1 c h).1
  generalize hs : (ps.drop (7 * k)).take (7 * k + 7 - 7 * k) = so
  have sl : so.length = 7 := by
    rw [← hs, List.length_take, List.length_drop]
    omega
  have s6 : Dr (so.getD 6 0) := by
    rw [List.getD_eq_getElem?_getD, List.getElem?_eq_getElem (by omega : 6 < so.length)]
    refine hd _ (List.mem_of_mem_drop (i := 7 * k) (List.mem_of_mem_take (i := 7 * k + 7 - 7 * k) ?_))
    rw [hs]
    exact List.getElem_mem _
  have hq : 1 ≤ top / prodM cs := by
    have := (Int.le_ediv_iff_mul_le (show 0 < prodM cs by omega)).mpr (show 1 * prodM cs ≤ top by omega)
    exact this
  have hql : top / prodM cs ≤ 100000 := by
    have := Int.ediv_le_self top (show 0 ≤ prodM cs by omega) |> fun h => h
    by_cases h0 : 0 ≤ top
    · exact Int.le_trans (Int.ediv_le_self _ h0) ht
    · omega
  generalize hm : (if top / prodM cs < 10 then top / prodM cs else 10) = mn
  have hmn : 1 ≤ mn ∧ mn ≤ 10 ∧ mn ≤ top / prodM cs := by
    rw [← hm]
    split <;> omega
  generalize hv : 1 + so.getD 5 0 % mn = v
  have hv1 : 1 ≤ v ∧ v ≤ mn := by
    have h1 := Int.emod_nonneg (so.getD 5 0) (show mn ≠ 0 by omega)
    have h2 := Int.emod_lt_of_pos (so.getD 5 0) (show 0 < mn by omega)
    omega
  generalize ho : ((v == 10) || (decide (1 < v) && (so.getD 6 0 % 3 == 0))) = o
  have hov : (o = true → 2 ≤ v) ∧ (v = 10 → o = true) := by
    rw [← ho]
    constructor
    · intro h
      rcases Bool.or_eq_true_iff.mp h with ten | h
      · have h := ten
        have : v = 10 := by simpa using h
        omega
      · have := (Bool.and_eq_true_iff.mp h).1
        have : 1 < v := by simpa using this
        omega
    · intro h
      rw [h]
      rfl
  have hb : v - b2 o + b2 o = v := by omega
  have hsz : 1 ≤ v - b2 o ∧ v - b2 o ≤ 9 := by
    cases o with
    | true =>
      have := hov.1 rfl
      show 1 ≤ v - 1 ∧ v - 1 ≤ 9
      omega
    | false =>
      have : v ≠ 10 := fun h => Bool.noConfusion (hov.2 h)
      show 1 ≤ v - 0 ∧ v - 0 ≤ 9
      omega
  obtain ⟨w, hw1, hw2, hw3⟩ := name_eq (ps := so) (taken := cs.map Col.name) (by omega) (fun t h => by
    obtain ⟨c, hcm, rfl⟩ := List.mem_map.mp h
    exact (hc.1 c hcm).2.shaped) (by rw [List.length_map]; omega)
  have hcm : Col.many ⟨w, v - b2 o, o⟩ = v := hb
  have hpr : prodM (cs ++ [⟨w, v - b2 o, o⟩]) = prodM cs * v := by
    rw [prodM_app]
    show prodM cs * (Col.many ⟨w, v - b2 o, o⟩ * 1) = _
    rw [hcm, Int.mul_one]
  have hfit : prodM cs * v ≤ top := by
    have h1 : prodM cs * v ≤ prodM cs * (top / prodM cs) := Int.mul_le_mul_of_nonneg_left (by omega) (by omega)
    have h2 : prodM cs * (top / prodM cs) ≤ top := Int.mul_ediv_self_le (by omega)
    omega
  refine ⟨⟨w, v - b2 o, o⟩, some (.list (so.map .int)), some (.int v), some (.bool o), ?_, ⟨fun c h => ?_, ?_⟩, by rw [hpr]; exact hfit⟩
  · unfold lb1_law_columns
    refine ev_set (d := .list (so.map .int)) (ev_sl rfl (ev_part (i := 7 * (k : Int)) (ev_bin rfl rfl (dMul_int (cmulL (by decide) (by decide))))) (ev_part (i := 7 * (k : Int) + 7) (ev_bin (ev_bin rfl rfl (dMul_int (cmulL (by decide) (by decide)))) rfl (dAdd_int _ _))) ?_) ?_
    · rw [slice_ints (a := 7 * k) (b := 7 * k + 7) (by omega) (by omega), hs]
    refine ev_set (d := .int v) (ev_bin (a := .int 1) (b := .int (so.getD 5 0 % mn)) rfl (ev_bin (b := .int mn) (ev_bin rfl rfl (pick_get (k := 5) (by omega))) (ev_cb (ev_cons rfl (ev_cons (ev_bin rfl rfl (dDiv_int (cdivS (by omega) (by omega)))) rfl)) ?_) (dMod_int (by omega))) ?_) ?_
    · show some (PyData.int (if top / prodM cs < 10 then top / prodM cs else 10)) = _
      rw [hm]
    · rw [dAdd_int, hv]
    refine ev_set (d := .bool o) ?_ ?_
    · rw [← ho]
      refine ev_orV (ev_bin rfl rfl (dEq_int _ _)) (ev_andV (ev_bin rfl rfl (dGt_int _ _)) (ev_bin (ev_bin (ev_bin rfl rfl (pick_get (k := 6) (by omega))) rfl (dMod_int (by decide))) rfl (dEq_int _ _)))
    refine ev_seq (ev_app (ds := cs.map Col.enc) (d := Col.enc ⟨w, v - b2 o, o⟩) rfl ?_ (line_lt (by rw [List.length_map]; omega))) ?_
    · refine ev_tup (ev_cons (d := .str w) (ev_cb (ev_cons (d := .list (so.map .int)) rfl (ev_cons (d := .list ((cs.map Col.name).map .str)) (cols_names rfl (by omega) fun c => ?_) rfl)) hw1) (ev_cons (ev_bin (b := .int (b2 o)) rfl (ev_cb (ev_cons rfl rfl) (bInt_bool o)) (dSub_int _ _)) (ev_cons rfl rfl))) (show 3 ≤ sizeLine by decide)
      unfold le1_law_columns
      rfl
    · refine ev_set1 (d := .int (prodM cs * v)) (ev_bin rfl rfl (dMul_int (cmulR (by omega) (by omega)))) ?_
      rw [hpr, List.map_append]
      rfl
  · obtain h | h := List.mem_append.mp h
    · exact hc.1 c h
    · rw [List.mem_singleton.mp h]
      exact ⟨hsz, hw2⟩
  · refine List.map_append ▸ List.nodup_append.mpr ?_
    refine ⟨hc.2, by simp, fun a ha b hb => ?_⟩
    have : b = w := by simpa using hb
    subst this
    exact fun e => hw3 (by rw [← e]; exact ha)
theorem columns_eq {ps : List Int} {many : Nat} {top : Int} (hm : many ≤ 8) (hp : 7 * many ≤ ps.length) (hd : ∀ x ∈ ps, Dr x) (ht0 : 1 ≤ top) (ht : top ≤ 100000) :
    ∃ cs : List Col, fm_law_columns [.list (ps.map .int), .int many, .int top] = some (.tuple [.tuple (cs.map Col.enc), .int (prodM cs)]) ∧ cs.length = many ∧ ColsOk cs ∧ prodM cs ≤ top := by
  have loop : ∃ e', loopD (gB 5) lb1_law_columns (rangeD 0 many) [some (.list (ps.map .int)), some (.int many), some (.int top), some (.list []), some (.int 1), none, none, none, none, none] = some (.nx e') ∧
      ∃ (cs : List Col) (z5 z6 z7 z8 : Option PyData), e' = [some (.list (ps.map .int)), some (.int many), some (.int top), some (.list (cs.map Col.enc)), some (.int (prodM cs)), z5, z6, z7, z8, none] ∧ cs.length = many ∧ ColsOk cs ∧ prodM cs ≤ top := by
    refine loop_range (fun i e => ∃ (cs : List Col) (z5 z6 z7 z8 : Option PyData), e = [some (.list (ps.map .int)), some (.int many), some (.int top), some (.list (cs.map Col.enc)), some (.int (prodM cs)), z5, z6, z7, z8, none] ∧ cs.length = i ∧ ColsOk cs ∧ prodM cs ≤ top)
      ⟨[], none, none, none, none, rfl, rfl, ⟨(fun _ h => absurd h (by simp)), by simp⟩, ht0⟩ fun i e hi he => ?_
    obtain ⟨cs, z5, z6, z7, z8, rfl, h1, h2, h3⟩ := he
    obtain ⟨c, y6, y7, y8, g1, g2, g3⟩ := columns_step (z6 := z6) (z7 := z7) (z8 := z8) hi hp hd ht h2 h1 hm h3
    refine ⟨_, _, rfl, .inl ?_, cs ++ [c], some (.int (i : Int)), y6, y7, y8, rfl, by rw [List.length_append, h1]; rfl, g2, g3⟩
    rw [Int.zero_add]
    exact g1
  obtain ⟨e', h1, cs, z5, z6, z7, z8, rfl, h2, h3, h4⟩ := loop
  refine ⟨cs, ?_, h2, h3, h4⟩
  unfold fm_law_columns mb_law_columns
  refine ev_run (d := .tuple [.tuple (cs.map Col.enc), .int (prodM cs)]) ?_ rfl
  refine ev_set (d := .list []) (ev_lst rfl (Nat.zero_le _)) ?_
  refine ev_set (d := .int 1) rfl ?_
  refine ev_for (ds := rangeD 0 many) (ev_rng rfl ?_) h1 ?_
  · rw [rng1_ok (by omega) (by omega)]
    congr 2
  · exact ev_ret (ev_tup (ev_cons (ev_cb (ev_cons rfl rfl) rfl) (ev_cons rfl rfl)) (show 2 ≤ sizeLine by decide))
/-! ### grounds -/
structure Tab.Gd (t : Tab) : Prop where
  cols : ColsOk t.cols
  name : NmOk t.name
  key : t.key ≤ t.cols.length
  shut : ∀ c ∈ t.cols.take t.key, c.op = false
  some : 1 ≤ t.cols.length
  few : t.cols.length ≤ 4
theorem any_ops {cs : List Col} {env : En} {vs : List Nat} {lb : En → Option PyData} {i j : Nat} (hm : mVar i env = some (.tuple (cs.map Col.enc))) (hz : cs.length ≤ 1000) (he : ∀ c : Col, lb ((wipeD env vs).set j (some c.enc)) = some (.bool c.op)) : mLc vs (mIt (mVar i)) (gB j) mYes lb env = some (.list ((cs.map Col.op).map .bool)) := by
  refine ev_lc (ds := cs.map Col.enc) (ev_it hm rfl) (es := (cs.map Col.op).map .bool) ?_ (by rw [List.length_map, List.length_map]; exact line_big (by omega))
  refine (lc_map (f := fun d => match d with | .tuple [_, _, x] => x | d => d) fun d hd => ?_).trans ?_
  · obtain ⟨c, hc, rfl⟩ := List.mem_map.mp hd
    exact ⟨_, gB_ap _ _ _, rfl, he c⟩
  · rw [List.map_map, List.map_map]
    rfl
theorem ev_index {ma mb : En → Option PyData} {env : En} {ds : List PyData} {b : PyData} {j : Nat} (h1 : ma env = some (.list ds)) (h2 : mb env = some b) (h3 : SeqAt.shaped (.list ds) = true) (h4 : SeqAt.shaped b = true) (h5 : findD b ds 0 = some j) : mIndex ma mb env = some (.int (j : Nat)) := by
  unfold mIndex
  rw [h1, Option.bind_some, h2, Option.bind_some]
  show (if SeqAt.shaped (.list ds) = true ∧ SeqAt.shaped b = true then (findD b ds 0).map fun j => PyData.int (j : Nat) else none) = _
  rw [if_pos ⟨h3, h4⟩, h5]
  rfl
theorem shaped_bools (bs : List Bool) : SeqAt.shaped (.list (bs.map .bool)) = true := by
  unfold SeqAt.shaped
  rw [Bool.and_eq_true]
  have h1 : PyData.canLayAll0 (bs.map .bool) = true := by
    induction bs with
    | nil => simp [PyData.canLayAll0]
    | cons w ws ih =>
      rw [List.map_cons, PyData.canLayAll0, ih]
      simp [PyData.canLay0]
  have h2 : PyData.depthAll (bs.map .bool) = 0 := by
    clear h1
    induction bs with
    | nil => simp [PyData.depthAll]
    | cons w ws ih =>
      rw [List.map_cons, PyData.depthAll, ih]
      simp [PyData.depth]
  refine ⟨by rw [PyData.canLay0]; exact h1, ?_⟩
  rw [PyData.depth, h2]
  rfl
theorem find_op : ∀ (bs : List Bool) (i : Nat), bs.any id = true → findD (.bool true) (bs.map .bool) i = some (i + bs.findIdx id)
  | [], _, h => by cases h
  | b :: bs, i, h => by
    cases b with
    | true =>
      rw [List.map_cons, findD, if_pos (by rw [PyData.eqv]; rfl), List.findIdx_cons]
      rfl
    | false =>
      rw [List.map_cons, findD, if_neg (by rw [PyData.eqv]; decide), find_op bs (i + 1) h, List.findIdx_cons]
      show some (i + 1 + bs.findIdx id) = some (i + (bs.findIdx id + 1))
      congr 1
      omega
theorem find_none {bs : List Bool} (h : bs.any id = false) : bs.findIdx id = bs.length := by
  apply List.findIdx_eq_length.mpr
  intro b hb
  cases hb2 : b with
  | false => rfl
  | true =>
    subst hb2
    have : bs.any id = true := List.any_eq_true.mpr ⟨true, hb, rfl⟩
    rw [h] at this
    cases this
def alikeCols : ∀ (cs ds : List Col), PySem.W.alikeAll (cs.map Col.enc) (ds.map Col.enc) = true
  | [], _ => by rw [List.map_nil, PySem.W.alikeAll]
  | _ :: _, [] => by rw [List.map_cons, List.map_nil, PySem.W.alikeAll]
  | c :: cs, d :: ds => by
    rw [List.map_cons, List.map_cons, PySem.W.alikeAll, alikeCols cs ds]
    simp [Col.enc, PySem.W.alike, PySem.W.alikeAll]
theorem alikeTab (t u : Tab) : PySem.W.alike t.enc u.enc = true := by
  unfold Tab.enc
  rw [PySem.W.alike, PySem.W.alikeAll, PySem.W.alikeAll, PySem.W.alikeAll, PySem.W.alike, PySem.W.alike, PySem.W.alike, alikeCols, PySem.W.alikeAll] <;> rfl
theorem depthCols : ∀ (cs : List Col), PyData.depthAll (cs.map Col.enc) ≤ 1
  | [] => Nat.zero_le 1
  | c :: cs => by
    have := depthCols cs
    have u : PyData.depthAll ((c :: cs).map Col.enc) = max (Col.enc c).depth (PyData.depthAll (cs.map Col.enc)) := by rw [List.map_cons]; rfl
    have h : (Col.enc c).depth = 1 := by simp [Col.enc, PyData.depth, PyData.depthAll]
    omega
theorem depthTab (t : Tab) : t.enc.depth ≤ 3 := by
  have := depthCols t.cols
  simp only [Tab.enc, PyData.depth, PyData.depthAll]
  omega
def sumP : List Tab → Int
  | [] => 0
  | t :: ts => prodM t.cols + sumP ts
theorem sumP_app : ∀ (as bs : List Tab), sumP (as ++ bs) = sumP as + sumP bs
  | [], bs => by simp [sumP]
  | a :: as, bs => by
    show prodM a.cols + sumP (as ++ bs) = prodM a.cols + sumP as + sumP bs
    rw [sumP_app as bs]
    omega
def tabLe (a b : Tab) : Bool := PySem.W.dataLe false id a.enc b.enc
theorem sorted_tabs (ts : List Tab) : bSorted [.list (ts.map Tab.enc)] = some (.list ((ts.mergeSort tabLe).map Tab.enc)) := by
  have hA : PySem.W.AllAlike (ts.map Tab.enc) := fun d hd d' hd' => by
    obtain ⟨t, _, rfl⟩ := List.mem_map.mp hd
    obtain ⟨u, _, rfl⟩ := List.mem_map.mp hd'
    exact alikeTab t u
  have hB : srtB (ts.map Tab.enc) = true := by
    unfold srtB
    rw [Bool.or_eq_true]
    refine .inl (List.all_eq_true.mpr fun d hd => ?_)
    obtain ⟨t, _, rfl⟩ := List.mem_map.mp hd
    rfl
  have hC : depthOk (ts.map Tab.enc) = true := by
    unfold depthOk
    refine List.all_eq_true.mpr fun d hd => ?_
    obtain ⟨t, _, rfl⟩ := List.mem_map.mp hd
    have := depthTab t
    refine decide_eq_true ?_
    omega
  have hS : (ts.map Tab.enc).mergeSort (PySem.W.dataLe false id) = (ts.mergeSort tabLe).map Tab.enc := (PySem.W.sort_maps (r := tabLe) (s := PySem.W.dataLe false id) Tab.enc (l := ts) (fun _ _ _ _ => rfl)).symm
  show (if PySem.W.AllAlike (ts.map Tab.enc) ∧ srtB (ts.map Tab.enc) = true ∧ depthOk (ts.map Tab.enc) = true then some (PyData.list ((ts.map Tab.enc).mergeSort (PySem.W.dataLe false id))) else none) = _
  rw [if_pos ⟨hA, hB, hC⟩, hS]
theorem tabs_names {ts : List Tab} {env : En} {vs : List Nat} {lb : En → Option PyData} {i j : Nat} (hm : mVar i env = some (.list (ts.map Tab.enc))) (hz : ts.length ≤ 1000) (he : ∀ t : Tab, lb ((wipeD env vs).set j (some t.enc)) = some (.str t.name)) : mLc vs (mIt (mVar i)) (gB j) mYes lb env = some (.list ((ts.map Tab.name).map .str)) := by
  refine ev_lc (ds := ts.map Tab.enc) (ev_it hm rfl) (es := (ts.map Tab.name).map .str) ?_ (by rw [List.length_map, List.length_map]; exact line_big (by omega))
  refine (lc_map (f := fun d => match d with | .tuple (x :: _) => x | d => d) fun d hd => ?_).trans ?_
  · obtain ⟨c, hc, rfl⟩ := List.mem_map.mp hd
    exact ⟨_, gB_ap _ _ _, rfl, he c⟩
  · rw [List.map_map, List.map_map]
    rfl
structure TabsOk (ts : List Tab) (top : Int) : Prop where
  each : ∀ t ∈ ts, t.Gd
  apart : (ts.map Tab.name).Nodup
  room : sumP ts ≤ top
theorem ground_step {ps : List Int} {top : Int} {ts : List Tab} {z5 z6 z7 z8 z9 : Option PyData} {k : Nat} (hk : k < 4) (hp : 145 ≤ ps.length) (hd : ∀ x ∈ ps, Dr x) (ht : top ≤ 100000) (hg : TabsOk ts top) (hl : ts.length ≤ k) (hk0 : k = 0 → ts = [] ∧ 1 ≤ top) (hk1 : 1 ≤ k → 1 ≤ ts.length) (hs0 : 0 ≤ sumP ts) :
    ∃ (us : List Tab) (y5 y6 y7 y8 y9 : Option PyData), lb1_law_ground [some (.list (ps.map .int)), some (.int top), some (.list (ts.map Tab.enc)), some (.int (top - sumP ts)), some (.int (k : Int)), z5, z6, z7, z8, z9, none] = some (.nx [some (.list (ps.map .int)), some (.int top), some (.list (us.map Tab.enc)), some (.int (top - sumP us)), some (.int (k : Int)), y5, y6, y7, y8, y9, none]) ∧ TabsOk us top ∧ us.length ≤ k + 1 ∧ 1 ≤ us.length ∧ 0 ≤ sumP us := by
  generalize hs : (ps.drop (1 + 36 * k)).take (37 + 36 * k - (1 + 36 * k)) = so
  have sl : so.length = 36 := by
    rw [← hs, List.length_take, List.length_drop]
    omega
  have sd : ∀ x ∈ so, Dr x := fun x hx => by
    rw [← hs] at hx
    exact hd x (List.mem_of_mem_drop (List.mem_of_mem_take hx))
  have e5 : (mSl (mVar 0) (mPart (mBin dAdd (mC (.int 1)) (mBin dMul (mC (.int 36)) (mVar 4)))) (mPart (mBin dAdd (mC (.int 37)) (mBin dMul (mC (.int 36)) (mVar 4))))) [some (.list (ps.map .int)), some (.int top), some (.list (ts.map Tab.enc)), some (.int (top - sumP ts)), some (.int (k : Int)), z5, z6, z7, z8, z9, none] = some (.list (so.map .int)) := by
    refine ev_sl rfl (ev_part (i := 1 + 36 * (k : Int)) (ev_bin rfl (ev_bin rfl rfl (dMul_int (cmulL (by decide) (by decide)))) (dAdd_int _ _))) (ev_part (i := 37 + 36 * (k : Int)) (ev_bin rfl (ev_bin rfl rfl (dMul_int (cmulL (by decide) (by decide)))) (dAdd_int _ _))) ?_
    rw [slice_ints (a := 1 + 36 * k) (b := 37 + 36 * k) (by omega) (by omega), hs]
  by_cases h0 : 0 < top - sumP ts
  · generalize hm : 1 + so.getD 5 0 % 4 = mi
    have hmi : 1 ≤ mi ∧ mi ≤ 4 := by
      have h1 := Int.emod_nonneg (so.getD 5 0) (show (4 : Int) ≠ 0 by decide)
      have h2 := Int.emod_lt_of_pos (so.getD 5 0) (show (0 : Int) < 4 by decide)
      omega
    obtain ⟨cs, c1, c2, c3, c4⟩ := columns_eq (ps := so.drop 7) (many := mi.toNat) (top := top - sumP ts) (by omega) (by rw [List.length_drop]; omega) (fun x hx => sd x (List.mem_of_mem_drop hx)) (by omega) (by omega)
    rw [show ((mi.toNat : Nat) : Int) = mi by omega] at c1
    have hpos := prodM_pos (cs := cs) fun c h => (c3.1 c h).1
    generalize hkz : (cs.map Col.op).findIdx id = kz
    have hkl : kz ≤ cs.length := by
      have : (cs.map Col.op).findIdx id ≤ (cs.map Col.op).length := List.findIdx_le_length
      rw [List.length_map, hkz] at this
      exact this
    generalize hkv : so.getD 6 0 % ((kz : Int) + 1) = kv
    have hk0' : 0 ≤ kv ∧ kv ≤ kz := by
      have h1 := Int.emod_nonneg (so.getD 6 0) (show (kz : Int) + 1 ≠ 0 by omega)
      have h2 := Int.emod_lt_of_pos (so.getD 6 0) (show 0 < (kz : Int) + 1 by omega)
      omega
    obtain ⟨w, hw1, hw2, hw3⟩ := name_eq (ps := so) (taken := ts.map Tab.name) (by omega) (fun t h => by
      obtain ⟨c, hcm, rfl⟩ := List.mem_map.mp h
      exact (hg.each c hcm).name.shaped) (by rw [List.length_map]; omega)
    have et : Tab.enc ⟨w, kv.toNat, cs⟩ = .tuple [.str w, .int kv, .tuple (cs.map Col.enc)] := by
      show PyData.tuple [.str w, .int ((kv.toNat : Nat) : Int), .tuple (cs.map Col.enc)] = _
      rw [show ((kv.toNat : Nat) : Int) = kv by omega]
    have gd : Tab.Gd ⟨w, kv.toNat, cs⟩ := by
      refine ⟨c3, hw2, by show kv.toNat ≤ cs.length; omega, fun c hc => ?_, by show 1 ≤ cs.length; omega, by show cs.length ≤ 4; omega⟩
      obtain ⟨i, hi, hci⟩ := List.getElem_of_mem hc
      have hi2 : i < kz := by
        rw [List.length_take] at hi
        have : i < kv.toNat := Nat.lt_of_lt_of_le hi (Nat.min_le_left _ _)
        omega
      rw [List.getElem_take] at hci
      have hnot := List.not_of_lt_findIdx (xs := cs.map Col.op) (p := id) (i := i) (by rw [hkz]; exact hi2)
      rw [List.getElem_map, hci] at hnot
      exact hnot
    refine ⟨ts ++ [⟨w, kv.toNat, cs⟩], some (.list (so.map .int)), some (.int (kz : Int)), some (.str w), some (.tuple (cs.map Col.enc)), some (.int (prodM cs)), ?_, ⟨fun t h => ?_, ?_, ?_⟩, by rw [List.length_append]; simp; omega, by rw [List.length_append]; simp, ?_⟩
    · unfold lb1_law_ground
      refine ev_set e5 ?_
      refine ev_if1T (ev_tst (ev_bin rfl rfl ?_)) ?_
      · rw [dGt_int, decide_eq_true h0]
      refine ev_bnd (d := .tuple [.tuple (cs.map Col.enc), .int (prodM cs)]) (ev_cb (ev_cons (d := .list ((so.drop 7).map .int)) (ev_sl rfl (ev_part rfl) rfl (slice_ints_from (a := 7) rfl)) (ev_cons (d := .int mi) (ev_bin rfl (ev_bin (ev_bin rfl rfl (pick_get (k := 5) (by omega))) rfl (dMod_int (by decide))) ?_) (ev_cons rfl rfl))) c1) rfl ?_
      · rw [dAdd_int, hm]
      refine ev_set (d := .int (kz : Int)) ?_ ?_
      · have ops : ∀ {lb : En → Option PyData} {env : En}, env = [some (.list (ps.map .int)), some (.int top), some (.list (ts.map Tab.enc)), some (.int (top - sumP ts)), some (.int (k : Int)), some (.list (so.map .int)), z6, z7, some (.tuple (cs.map Col.enc)), some (.int (prodM cs)), none] → lb = mBin dIx (mVar 10) (mC (.int 2)) → mLc [10] (mIt (mVar 8)) (gB 10) mYes lb env = some (.list ((cs.map Col.op).map .bool)) := fun he hb => by
          subst he hb
          exact any_ops rfl (by omega) fun c => rfl
        by_cases ha : (cs.map Col.op).any id = true
        · refine ev_iT (ev_tru (d := .bool true) (ev_cb (ev_cons (ops rfl rfl) rfl) ?_) rfl) ?_
          · show (boolsOf ((cs.map Col.op).map .bool)).map _ = _
            rw [boolsOf_map, Option.map_some, ha]
          · refine ev_index (ops rfl rfl) rfl (shaped_bools _) rfl ?_
            rw [find_op _ _ ha, Nat.zero_add, hkz]
        · have ha' : (cs.map Col.op).any id = false := Bool.eq_false_iff.mpr ha
          refine ev_iF (ev_tru (d := .bool false) (ev_cb (ev_cons (ops rfl rfl) rfl) ?_) rfl) (ev_cb (ev_cons rfl rfl) ?_)
          · show (boolsOf ((cs.map Col.op).map .bool)).map _ = _
            rw [boolsOf_map, Option.map_some, ha']
          · show some (PyData.int ((cs.map Col.enc).length : Nat)) = _
            rw [List.length_map, ← hkz, find_none ha', List.length_map]
      refine ev_set (d := .str w) (ev_cb (ev_cons (d := .list (so.map .int)) rfl (ev_cons (d := .list ((ts.map Tab.name).map .str)) (tabs_names rfl (by omega) fun t => ?_) rfl)) hw1) ?_
      · unfold le1_law_ground
        rfl
      refine ev_seq (ev_app (ds := ts.map Tab.enc) (d := Tab.enc ⟨w, kv.toNat, cs⟩) rfl ?_ (line_lt (by rw [List.length_map]; omega))) ?_
      · rw [et]
        refine ev_tup (ev_cons rfl (ev_cons (d := .int kv) (ev_bin (b := .int ((kz : Int) + 1)) (ev_bin rfl rfl (pick_get (k := 6) (by omega))) (ev_bin rfl rfl (dAdd_int _ _)) ?_) (ev_cons rfl rfl))) (show 3 ≤ sizeLine by decide)
        rw [dMod_int (by omega), hkv]
      · refine ev_set1 (d := .int (top - sumP ts - prodM cs)) (ev_bin rfl rfl (dSub_int _ _)) ?_
        rw [List.map_append, sumP_app]
        show some (Fl.nx [_, _, _, some (.int (top - sumP ts - prodM cs)), _, _, _, _, _, _, _]) = some (Fl.nx [_, _, _, some (.int (top - (sumP ts + (prodM cs + 0)))), _, _, _, _, _, _, _])
        rw [show top - sumP ts - prodM cs = top - (sumP ts + (prodM cs + 0)) by omega]
        rfl
    · obtain h | h := List.mem_append.mp h
      · exact hg.each t h
      · rw [List.mem_singleton.mp h]
        exact gd
    · refine List.map_append ▸ List.nodup_append.mpr ?_
      refine ⟨hg.apart, by simp, fun a ha b hb => ?_⟩
      have : b = w := by simpa using hb
      subst this
      exact fun e => hw3 (by rw [← e]; exact ha)
    · rw [sumP_app]
      show sumP ts + (prodM cs + 0) ≤ top
      omega
    · rw [sumP_app]
      show 0 ≤ sumP ts + (prodM cs + 0)
      omega
  · refine ⟨ts, some (.list (so.map .int)), z6, z7, z8, z9, ?_, hg, by omega, ?_, hs0⟩
    · unfold lb1_law_ground
      refine ev_set e5 ?_
      refine ev_if1F (ev_tst (ev_bin rfl rfl ?_)) rfl
      rw [dGt_int, decide_eq_false h0]
    · by_cases z : k = 0
      · obtain ⟨rfl, h1⟩ := hk0 z
        exact absurd (show (0 : Int) < top - 0 by omega) h0
      · exact hk1 (by omega)
theorem ground_eq {ps : List Int} {top : Int} (hp : 145 ≤ ps.length) (hd : ∀ x ∈ ps, Dr x) (ht0 : 1 ≤ top) (ht : top ≤ 100000) :
    ∃ ts : List Tab, fm_law_ground [.list (ps.map .int), .int top] = some (.tuple ((ts.mergeSort tabLe).map Tab.enc)) ∧ TabsOk ts top ∧ ts.length ≤ 4 ∧ 1 ≤ ts.length := by
  generalize hn : 1 + ps.getD 0 0 % 4 = n
  have hn1 : 1 ≤ n ∧ n ≤ 4 := by
    have h1 := Int.emod_nonneg (ps.getD 0 0) (show (4 : Int) ≠ 0 by decide)
    have h2 := Int.emod_lt_of_pos (ps.getD 0 0) (show (0 : Int) < 4 by decide)
    omega
  have loop : ∃ e', loopD (gB 4) lb1_law_ground (rangeD 0 n.toNat) [some (.list (ps.map .int)), some (.int top), some (.list []), some (.int top), none, none, none, none, none, none, none] = some (.nx e') ∧
      ∃ (ts : List Tab) (z4 z5 z6 z7 z8 z9 : Option PyData), e' = [some (.list (ps.map .int)), some (.int top), some (.list (ts.map Tab.enc)), some (.int (top - sumP ts)), z4, z5, z6, z7, z8, z9, none] ∧ TabsOk ts top ∧ ts.length ≤ n.toNat ∧ (n.toNat = 0 → ts = []) ∧ (1 ≤ n.toNat → 1 ≤ ts.length) ∧ 0 ≤ sumP ts := by
    refine loop_range (fun i e => ∃ (ts : List Tab) (z4 z5 z6 z7 z8 z9 : Option PyData), e = [some (.list (ps.map .int)), some (.int top), some (.list (ts.map Tab.enc)), some (.int (top - sumP ts)), z4, z5, z6, z7, z8, z9, none] ∧ TabsOk ts top ∧ ts.length ≤ i ∧ (i = 0 → ts = []) ∧ (1 ≤ i → 1 ≤ ts.length) ∧ 0 ≤ sumP ts)
      ⟨[], none, none, none, none, none, none, by simp [sumP], ⟨(fun _ h => absurd h (by simp)), by simp, by simp [sumP]; omega⟩, Nat.le_refl _, fun _ => rfl, fun h => absurd h (by decide), by simp [sumP]⟩ fun i e hi he => ?_
    obtain ⟨ts, z4, z5, z6, z7, z8, z9, rfl, h1, h2, h3, h4, h5⟩ := he
    obtain ⟨us, y5, y6, y7, y8, y9, g1, g2, g3, g4, g5⟩ := ground_step (z5 := z5) (z6 := z6) (z7 := z7) (z8 := z8) (z9 := z9) (k := i) (by omega) hp hd ht h1 h2 (fun z => ⟨h3 z, ht0⟩) h4 h5
    refine ⟨_, _, rfl, .inl ?_, us, some (.int (i : Int)), y5, y6, y7, y8, y9, rfl, g2, g3, (fun z => absurd z (by omega)), fun _ => g4, g5⟩
    rw [Int.zero_add]
    exact g1
  obtain ⟨e', h1, ts, z4, z5, z6, z7, z8, z9, rfl, h2, h3, _, h4, _⟩ := loop
  refine ⟨ts, ?_, h2, by omega, h4 (by omega)⟩
  unfold fm_law_ground mb_law_ground
  refine ev_run (d := .tuple ((ts.mergeSort tabLe).map Tab.enc)) ?_ rfl
  refine ev_set (d := .list []) (ev_lst rfl (Nat.zero_le _)) ?_
  refine ev_set (d := .int top) rfl ?_
  refine ev_for (ds := rangeD 0 n.toNat) ?_ h1 ?_
  · refine ev_rng (ev_cons (ev_bin rfl (ev_bin (ev_bin rfl rfl (pick_get (k := 0) (by omega))) rfl (dMod_int (by decide))) (dAdd_int _ _)) rfl) ?_
    rw [rng1_ok (by omega) (by omega), hn]
  · exact ev_ret (ev_cb (ev_cons (d := .list ((ts.mergeSort tabLe).map Tab.enc)) (ev_cb (ev_cons rfl rfl) (sorted_tabs ts)) rfl) rfl)
theorem ev_chain {f g : PyData → PyData → Option PyData} {ma mb mc : En → Option PyData} {env : En} {a b c : PyData} {p q : Bool} (h1 : ma env = some a) (h2 : mb env = some b) (h3 : mc env = some c) (h4 : f a b = some (.bool p)) (h5 : g b c = some (.bool q)) :
    mChain f g ma mb mc env = some (.bool (p && q)) := by
  unfold mChain
  rw [h1, h2, Option.bind_some, Option.bind_some, h4, Option.bind_some]
  cases p
  · rfl
  · show (mc env).bind _ = _
    rw [h3, Option.bind_some, h5, Bool.true_and]
theorem ev_andVF {ma mb : En → Option PyData} {env : En} (h : ma env = some (.bool false)) : mAnd ma mb env = some (.bool false) := by
  unfold mAnd
  rw [h]
  rfl
def whole (d : PyData) : Bool := match d with
  | .int _ => true
  | _ => false
def within (d : PyData) (lo hi : Int) : Bool := match d with
  | .int i => decide (lo ≤ i) && decide (i ≤ hi)
  | _ => false
theorem is_whole_eq (d : PyData) : fm_is_whole [d] = some (.bool (whole d)) := by
  unfold fm_is_whole mb_is_whole
  refine ev_run (d := .bool (whole d)) (ev_ret ?_) rfl
  cases d <;> rfl
theorem law_from_eq (d : PyData) (lo hi : Int) : fm_law_from [d, .int lo, .int hi] = some (.bool (within d lo hi)) := by
  unfold fm_law_from mb_law_from
  refine ev_run (d := .bool (within d lo hi)) (ev_ret ?_) rfl
  cases d with
  | int i =>
    refine ev_andV (a := true) (b := within (.int i) lo hi) rfl (ev_andV (a := true) (b := within (.int i) lo hi) rfl (ev_andV (a := decide (lo ≤ i)) (b := decide (i ≤ hi)) rfl rfl))
  | bool b => cases b <;> rfl
  | _ => rfl

inductive Dm (N : Nat) : PyData → Prop
  | none : Dm N .none
  | bool (b : Bool) : Dm N (.bool b)
  | int (i : Int) : Dm N (.int i)
  | str {x : Str} (h : SeqAt.shaped (.str x) = true) (l : x.length ≤ 1000) : Dm N (.str x)
  | list {xs : List PyData} (l : xs.length ≤ N) (h : ∀ d ∈ xs, Dm N d) : Dm N (.list xs)
  | tuple {xs : List PyData} (l : xs.length ≤ N) (h : ∀ d ∈ xs, Dm N d) : Dm N (.tuple xs)
theorem ev_seqR {m n : En → Option Fl} {env : En} {d : PyData} (h : m env = some (.rt d)) : mSeq m n env = some (.rt d) := by
  unfold mSeq
  rw [h]
  rfl
theorem not_three {env : En} {i : Nat} {d : PyData} (hv : mVar i env = some d) (hd : isiD "tuple" d = false) {m : En → Option Bool} : mOrT (mNotT (mTru (mIsi (isiD "tuple") (mVar i)))) m env = some true := by
  refine ev_orT (ev_notT (b := false) (ev_tru (d := .bool (isiD "tuple" d)) ?_ ?_))
  · unfold mIsi
    rw [hv]
    rfl
  · rw [hd]
    rfl
theorem three {env : En} {i : Nat} {xs : List PyData} (hv : mVar i env = some (.tuple xs)) {m : En → Option Bool} {b : Bool} (h : m env = some b) : mOrT (mNotT (mTru (mIsi (isiD "tuple") (mVar i)))) m env = some b := by
  refine ev_orF (ev_notT (b := true) (ev_tru (d := .bool true) ?_ rfl)) h
  unfold mIsi
  rw [hv]
  rfl
theorem len_is {env : En} {i : Nat} {xs : List PyData} (hv : mVar i env = some (.tuple xs)) (n : Nat) : mTst (mBin dNe (mCB bLen (mCons (mVar i) mNil)) (mC (.int (n : Int)))) env = some (decide (xs.length ≠ n)) := by
  refine ev_tst (ev_bin (ev_cb (ev_cons hv rfl) rfl) rfl ?_)
  rw [dNe_int]
  refine congrArg (fun told => some (PyData.bool told)) ?_
  by_cases z : xs.length = n
  · rw [z]
    simp
  · have : ((xs.length : Nat) : Int) ≠ (n : Int) := fun q => z (Int.ofNat.inj q)
    simp [z, this]
def isB (d : PyData) : Bool := match d with
  | .bool _ => true
  | _ => false
theorem isB_eq (d : PyData) : isiD "bool" d = isB d := by
  rw [isi_bool]
  cases d <;> rfl
theorem ev_isi {env : En} {m : En → Option PyData} {d : PyData} {f : PyData → Bool} {b : Bool} (h : m env = some d) (e : f d = b) : mIsi f m env = some (.bool b) := by
  unfold mIsi
  rw [h, Option.bind_some, e]
theorem bools_of (p : PyData → Bool) : ∀ l : List PyData, boolsOf (l.map fun c => .bool (p c)) = some (l.map p)
  | [] => rfl
  | c :: l => by
    show (boolsOf (l.map fun c => .bool (p c))).map (p c :: ·) = _
    rw [bools_of p l]
    rfl
theorem all_of {env : En} {vs : List Nat} {mi : En → Option (List PyData)} {b : PyData → En → Option En} {cs : List PyData} {p : PyData → Bool} {le : En → Option PyData} (hv : mi env = some cs) (hz : cs.length ≤ 1000)
    (he : ∀ d ∈ cs, ∃ e1, b d (wipeD env vs) = some e1 ∧ le e1 = some (.bool (p d))) : mCB bAll (mCons (mLc vs mi b mYes le) mNil) env = some (.bool (cs.all p)) := by
  have h : mLc vs mi b mYes le env = some (.list (cs.map fun d => .bool (p d))) := by
    refine ev_lc hv (es := cs.map fun d => .bool (p d)) ?_ (line_big (by rw [List.length_map]; omega))
    refine lc_map fun d hd => ?_
    obtain ⟨e1, h1, h2⟩ := he d hd
    exact ⟨e1, h1, rfl, h2⟩
  refine ev_cb (ev_cons h rfl) ?_
  show (boolsOf _).map _ = _
  rw [bools_of]
  show some (PyData.bool ((cs.map p).all id)) = _
  rw [List.all_map]
  rfl
theorem any_of {env : En} {vs : List Nat} {mi : En → Option (List PyData)} {b : PyData → En → Option En} {cs : List PyData} {p : PyData → Bool} {le : En → Option PyData} (hv : mi env = some cs) (hz : cs.length ≤ 1000)
    (he : ∀ d ∈ cs, ∃ e1, b d (wipeD env vs) = some e1 ∧ le e1 = some (.bool (p d))) : mCB bAny (mCons (mLc vs mi b mYes le) mNil) env = some (.bool (cs.any p)) := by
  have h : mLc vs mi b mYes le env = some (.list (cs.map fun d => .bool (p d))) := by
    refine ev_lc hv (es := cs.map fun d => .bool (p d)) ?_ (line_big (by rw [List.length_map]; omega))
    refine lc_map fun d hd => ?_
    obtain ⟨e1, h1, h2⟩ := he d hd
    exact ⟨e1, h1, rfl, h2⟩
  refine ev_cb (ev_cons h rfl) ?_
  show (boolsOf _).map _ = _
  rw [bools_of]
  show some (PyData.bool ((cs.map p).any id)) = _
  rw [List.any_map]
  rfl
theorem ev_not {env : En} {m : En → Option PyData} {b : Bool} (h : m env = some (.bool b)) : mNot m env = some (.bool (!b)) := by
  unfold mNot
  rw [h]
  rfl
theorem within_int {k : PyData} {lo hi : Int} (h : within k lo hi = true) : ∃ i, k = .int i ∧ lo ≤ i ∧ i ≤ hi := by
  cases k with
  | int i =>
    rw [within, Bool.and_eq_true] at h
    exact ⟨i, rfl, of_decide_eq_true h.1, of_decide_eq_true h.2⟩
  | _ => cases h
theorem cut_key {cs : List PyData} {i : Int} (h0 : 0 ≤ i) : dSl (.tuple cs) none (some i) = some (.tuple (cs.take i.toNat)) := by
  have e : i = ((i.toNat : Nat) : Int) := (Int.toNat_of_nonneg h0).symm
  show some (PyData.tuple (cutD cs none (some i))) = _
  rw [e, cutD_take, ← e]
theorem Dm.mono {N N2 : Nat} (h : N ≤ N2) {d : PyData} (x : Dm N d) : Dm N2 d := by
  induction x with
  | none => exact .none
  | bool b => exact .bool b
  | int i => exact .int i
  | str sh l => exact .str sh l
  | list l _ ih => exact .list (Nat.le_trans l h) ih
  | tuple l _ ih => exact .tuple (Nat.le_trans l h) ih
theorem is_within_eq (d : PyData) (lo hi : Int) : fm_is_whole_within [d, .int lo, .int hi] = some (.bool (within d lo hi)) := by
  unfold fm_is_whole_within mb_is_whole_within
  refine ev_run (d := .bool (within d lo hi)) (ev_ret ?_) rfl
  cases d with
  | int i => exact ev_andV (a := true) (b := within (.int i) lo hi) (ev_cb (ev_cons rfl rfl) (is_whole_eq _)) (ev_chain rfl rfl rfl rfl rfl)
  | _ => exact ev_andVF (ev_cb (ev_cons rfl rfl) (is_whole_eq _))
theorem cell_eq (ns : List Int) (hl : ns.length ≤ 63) : fm_law_cell_at [.list (ns.map .int), .int 0] = some (.int (ns.getD 0 0)) := by
  unfold fm_law_cell_at mb_law_cell_at
  refine ev_run (d := .int (ns.getD 0 0)) ?_ rfl
  cases ns with
  | nil => exact ev_ifF (ev_tst (ev_bin rfl (ev_cb (ev_cons rfl rfl) rfl) rfl)) rfl (ev_ret rfl)
  | cons n ns =>
    refine ev_ifR (ev_tst (ev_bin rfl (ev_cb (ds := [.list ((n :: ns).map .int)]) (ev_cons rfl rfl) (o := some (.int ((n :: ns).length : Nat))) ?_) ?_)) (ev_ret (ev_bin rfl rfl (dIx_zero _ _)))
    · show some (PyData.int (((n :: ns).map PyData.int).length : Nat)) = _
      rw [List.length_map]
    · rw [dLt_int, decide_eq_true (by rw [List.length_cons]; omega)]
/-! ### things by their depth -/
inductive Dx (N : Nat) : Nat → PyData → Prop
  | none {k : Nat} : Dx N k .none
  | bool {k : Nat} (b : Bool) : Dx N k (.bool b)
  | int {k : Nat} (i : Int) : Dx N k (.int i)
  | str {k : Nat} {x : Str} (h : SeqAt.shaped (.str x) = true) (l : x.length ≤ 1000) : Dx N k (.str x)
  | list {k : Nat} {xs : List PyData} (l : xs.length ≤ N) (h : ∀ d ∈ xs, Dx N k d) : Dx N (k + 1) (.list xs)
  | tuple {k : Nat} {xs : List PyData} (l : xs.length ≤ N) (h : ∀ d ∈ xs, Dx N k d) : Dx N (k + 1) (.tuple xs)
theorem Dx.mono {N N2 : Nat} (h : N ≤ N2) {k : Nat} {d : PyData} (x : Dx N k d) : ∀ {k2 : Nat}, k ≤ k2 → Dx N2 k2 d := by
  induction x with
  | none => exact fun _ => .none
  | bool b => exact fun _ => .bool b
  | int i => exact fun _ => .int i
  | str sh l => exact fun _ => .str sh l
  | list l _ ih =>
    intro k2 hk
    cases k2 with
    | zero => omega
    | succ k2 => exact .list (Nat.le_trans l h) fun d hd => ih d hd (by omega)
  | tuple l _ ih =>
    intro k2 hk
    cases k2 with
    | zero => omega
    | succ k2 => exact .tuple (Nat.le_trans l h) fun d hd => ih d hd (by omega)
theorem layAll_of : ∀ {xs : List PyData}, (∀ d ∈ xs, d.canLay0 = true) → PyData.canLayAll0 xs = true
  | [], _ => by rw [PyData.canLayAll0]
  | d :: xs, h => by
    rw [PyData.canLayAll0, h d List.mem_cons_self, layAll_of fun e he => h e (List.mem_cons_of_mem _ he)]
    rfl
theorem depAll_of {k : Nat} : ∀ {xs : List PyData}, (∀ d ∈ xs, d.depth ≤ k) → PyData.depthAll xs ≤ k
  | [], _ => by
    rw [PyData.depthAll]
    exact Nat.zero_le k
  | d :: xs, h => by
    have h1 := h d List.mem_cons_self
    have h2 := depAll_of (k := k) fun e he => h e (List.mem_cons_of_mem _ he)
    rw [PyData.depthAll]
    omega
theorem Dx.both {N k : Nat} {d : PyData} (x : Dx N k d) : d.canLay0 = true ∧ d.depth ≤ k := by
  induction x with
  | none => exact ⟨by rw [PyData.canLay0], by rw [PyData.depth]; exact Nat.zero_le _⟩
  | bool b => exact ⟨by rw [PyData.canLay0], by rw [PyData.depth]; exact Nat.zero_le _⟩
  | int i => exact ⟨by rw [PyData.canLay0], by rw [PyData.depth]; exact Nat.zero_le _⟩
  | str sh l => exact ⟨(Bool.and_eq_true_iff.mp sh).1, by rw [PyData.depth]; exact Nat.zero_le _⟩
  | list l _ ih =>
    refine ⟨by rw [PyData.canLay0]; exact layAll_of fun d hd => (ih d hd).1, ?_⟩
    have := depAll_of fun d hd => (ih d hd).2
    rw [PyData.depth]
    omega
  | tuple l _ ih =>
    refine ⟨by rw [PyData.canLay0]; exact layAll_of fun d hd => (ih d hd).1, ?_⟩
    have := depAll_of fun d hd => (ih d hd).2
    rw [PyData.depth]
    omega
theorem Dx.shaped {N k : Nat} {d : PyData} (x : Dx N k d) (hk : k ≤ 64) : SeqAt.shaped d = true := by
  have := x.both
  unfold SeqAt.shaped
  rw [this.1, decide_eq_true (by omega)]
  rfl
/-! ### odd things -/
def odd1L : List PyData := [.none, .bool true, .bool false, .int (-1), .int 0, .int 1, .int 2, .int 8, .int 9, .int 10, .int (10 ^ (25 : Int).toNat), .str "", .str "a", .str "ab", .str "zzzzzzzz", .str "zzzzzzzzz", .str "Ab", .str "a1"]
def odd2L : List PyData := [.str "rows", .str "seal", .str "not", .str "has", .str "a b", .str " a", .str "a\n", .tuple [], .list [], .tuple [.str "a"], .list [.str "a"], .tuple [.int 1, .int 2], .tuple [.str "yes"], .tuple [.bool true]]
def odd3L : List PyData := [.tuple [.str "rows", .str "a"], .tuple [.str "view", .str "a"], .str "yes", .str "read", .str "must", .str "own", .str "asker", .int (-2), .int 3, .int 11, .tuple [.none], .tuple [.tuple []]]
def oddL : List PyData := odd1L ++ odd2L ++ odd3L
theorem ev_un {f : PyData → Option PyData} {m : En → Option PyData} {env : En} {d : PyData} {o : Option PyData} (h : m env = some d) (h2 : f d = o) : mUn f m env = o := by
  unfold mUn
  rw [h]
  exact h2
theorem ev_c {d : PyData} {env : En} : mC d env = some d := rfl
theorem pow25 : dPow (.int 10) (.int 25) = some (.int (10 ^ (25 : Int).toNat)) := by
  have c : CPow 10 25 := by unfold CPow; decide +kernel
  show (if CPow 10 25 then some (PyData.int (10 ^ (25 : Int).toNat)) else none) = _
  rw [if_pos c]
theorem tup0 {env : En} : mTup mNil env = some (.tuple []) := ev_tup rfl (line_big (by decide))
theorem lst0 {env : En} : mLst mNil env = some (.list []) := ev_lst rfl (line_big (by decide))
theorem tup1 {env : En} {m : En → Option PyData} {d : PyData} (h : m env = some d) : mTup (mCons m mNil) env = some (.tuple [d]) := ev_tup (ev_cons h rfl) (line_big (show 1 ≤ 100000 by decide))
theorem lst1 {env : En} {m : En → Option PyData} {d : PyData} (h : m env = some d) : mLst (mCons m mNil) env = some (.list [d]) := ev_lst (ev_cons h rfl) (line_big (show 1 ≤ 100000 by decide))
theorem tup2 {env : En} {m n : En → Option PyData} {d e : PyData} (h : m env = some d) (h2 : n env = some e) : mTup (mCons m (mCons n mNil)) env = some (.tuple [d, e]) := ev_tup (ev_cons h (ev_cons h2 rfl)) (line_big (show 2 ≤ 100000 by decide))
theorem Dx.txt {N k : Nat} {x : Str} (h : (SeqAt.shaped (.str x) && decide (x.length ≤ 1000)) = true)   : Dx N k (.str x) := .str (Bool.and_eq_true_iff.mp h).1 (of_decide_eq_true (Bool.and_eq_true_iff.mp h).2)
theorem Dx.nil {N k : Nat} : Dx N (k + 1) (.tuple []) := .tuple (Nat.zero_le _) fun _ h => nomatch h
theorem Dx.one {N k : Nat} (hN : 2 ≤ N) {d : PyData} (h : Dx N k d) : Dx N (k + 1) (.tuple [d]) := .tuple (by show 1 ≤ N; omega) fun e he => by
  rw [List.mem_singleton.mp he]
  exact h
theorem Dx.two {N k : Nat} (hN : 2 ≤ N) {d e : PyData} (h : Dx N k d) (h2 : Dx N k e) : Dx N (k + 1) (.tuple [d, e]) := .tuple hN fun f hf => by
  cases hf with
  | head => exact h
  | tail _ hf =>
    rw [List.mem_singleton.mp hf]
    exact h2
def DxA (N k : Nat) (l : List PyData) : Prop := ∀ d ∈ l, Dx N k d
theorem DxA.nil {N k : Nat} : DxA N k [] := fun _ h => nomatch h
theorem DxA.cons {N k : Nat} {d : PyData} {l : List PyData} (h : Dx N k d) (h2 : DxA N k l) : DxA N k (d :: l) := fun e he => by
  cases he with
  | head => exact h
  | tail _ he => exact h2 e he
theorem DxA.app {N k : Nat} {l r : List PyData} (h : DxA N k l) (h2 : DxA N k r) : DxA N k (l ++ r) := fun e he => by
  cases List.mem_append.mp he with
  | inl z => exact h e z
  | inr z => exact h2 e z
theorem odd1_dm {N : Nat} : DxA N 2 odd1L := by
  unfold odd1L
  repeat' first
    | exact DxA.nil
    | refine DxA.cons ?_ ?_
    | exact Dx.none
    | exact Dx.bool _
    | exact Dx.int _
    | exact Dx.txt (by decide +kernel)
theorem odd2_dm {N : Nat} (hN : 2 ≤ N) : DxA N 2 odd2L := by
  have ta : Dx N 1 (.str "a") := Dx.txt (by decide +kernel)
  have ty : Dx N 1 (.str "yes") := Dx.txt (by decide +kernel)
  unfold odd2L
  refine .cons (Dx.txt (by decide +kernel)) (.cons (Dx.txt (by decide +kernel)) (.cons (Dx.txt (by decide +kernel)) (.cons (Dx.txt (by decide +kernel)) (.cons (Dx.txt (by decide +kernel)) (.cons (Dx.txt (by decide +kernel)) (.cons (Dx.txt (by decide +kernel)) ?_))))))
  exact .cons Dx.nil (.cons (.list (Nat.zero_le _) fun _ h => nomatch h) (.cons (Dx.one hN ta) (.cons (.list (by show 1 ≤ N; omega) fun e he => by rw [List.mem_singleton.mp he]; exact ta) (.cons (Dx.two hN (.int _) (.int _)) (.cons (Dx.one hN ty) (.cons (Dx.one hN (.bool _)) .nil))))))
theorem odd3_dm {N : Nat} (hN : 2 ≤ N) : DxA N 2 odd3L := by
  have ta : Dx N 1 (.str "a") := Dx.txt (by decide +kernel)
  unfold odd3L
  refine .cons (Dx.two hN (Dx.txt (by decide +kernel)) ta) (.cons (Dx.two hN (Dx.txt (by decide +kernel)) ta) (.cons (Dx.txt (by decide +kernel)) (.cons (Dx.txt (by decide +kernel)) (.cons (Dx.txt (by decide +kernel)) (.cons (Dx.txt (by decide +kernel)) (.cons (Dx.txt (by decide +kernel)) ?_))))))
  exact .cons (.int _) (.cons (.int _) (.cons (.int _) (.cons (Dx.one hN .none) (.cons (Dx.one hN Dx.nil) .nil))))
theorem odd_dm {N : Nat} (hN : 2 ≤ N) : DxA N 2 oddL := ((odd1_dm).app (odd2_dm hN)).app (odd3_dm hN)
theorem odd_len : oddL.length = 44 := rfl
theorem atI_in {α : Type} {xs : List α} {i : Int} (h0 : 0 ≤ i) (h1 : i < (xs.length : Nat)) : ∃ x ∈ xs, atI xs i = some x := by
  obtain ⟨place, rfl⟩ := Int.eq_ofNat_of_zero_le h0
  have hj : place < xs.length := by omega
  exact ⟨xs[place], List.getElem_mem hj, atI_nat (List.getElem?_eq_getElem hj)⟩
theorem odd_eq {ps : List Int} (hp : 2 ≤ ps.length) {N : Nat} (hN : 2 ≤ N) : ∃ d, fm_law_odd [.list (ps.map .int)] = some d ∧ Dx N 2 d := by
  have ix0 := Int.emod_nonneg (ps.getD 0 0 + 7 * ps.getD 1 0) (show (44 : Int) ≠ 0 by decide)
  have ix1 := Int.emod_lt_of_pos (ps.getD 0 0 + 7 * ps.getD 1 0) (show (0 : Int) < 44 by decide)
  obtain ⟨x, hx, e⟩ := atI_in (xs := oddL) ix0 (by rw [odd_len]; exact ix1)
  refine ⟨x, ?_, odd_dm hN x hx⟩
  unfold fm_law_odd mb_law_odd
  refine ev_run (d := x) (ev_set (d := .list odd1L) ?_ (ev_set (d := .list (odd1L ++ odd2L)) (ev_bin (a := .list odd1L) (b := .list odd2L) rfl ?_ (dAdd_list (by decide))) (ev_set (d := .list oddL) (ev_bin (a := .list (odd1L ++ odd2L)) (b := .list odd3L) rfl ?_ (dAdd_list (by decide))) (ev_ret ?_)))) rfl
  · refine ev_lst ?_ (line_big (by decide))
    unfold odd1L
    repeat' first
      | exact ev_c
      | refine ev_cons ?_ ?_
      | exact ev_un ev_c rfl
      | exact ev_bin ev_c ev_c pow25
      | exact (rfl : mNil _ = some [])
  · refine ev_lst ?_ (line_big (by decide))
    unfold odd2L
    repeat' first
      | exact ev_c
      | refine ev_cons ?_ ?_
      | exact tup0
      | exact lst0
      | exact tup1 ev_c
      | exact lst1 ev_c
      | exact tup2 ev_c ev_c
      | exact (rfl : mNil _ = some [])
  · refine ev_lst ?_ (line_big (by decide))
    unfold odd3L
    repeat' first
      | exact ev_c
      | refine ev_cons ?_ ?_
      | exact ev_un ev_c rfl
      | exact tup1 tup0
      | exact tup1 ev_c
      | exact tup2 ev_c ev_c
      | exact (rfl : mNil _ = some [])
  · have g0 := pick_get (some5 := ps) (k := 0) (by omega)
    have g1 := pick_get (some5 := ps) (k := 1) (by omega)
    refine ev_bin (a := .list oddL) (b := .int ((ps.getD 0 0 + 7 * ps.getD 1 0) % 44)) rfl (ev_bin (a := .int (ps.getD 0 0 + 7 * ps.getD 1 0)) (b := .int 44) (ev_bin (a := .int (ps.getD 0 0)) (b := .int (7 * ps.getD 1 0)) (ev_bin (a := .list (ps.map .int)) (b := .int 0) rfl rfl g0) (ev_bin (a := .int 7) (b := .int (ps.getD 1 0)) rfl (ev_bin (a := .list (ps.map .int)) (b := .int 1) rfl rfl g1) (dMul_int (cmulL (by decide) (by decide)))) (dAdd_int _ _)) (ev_cb (ds := [.list oddL]) (ev_cons rfl rfl) rfl) (dMod_int (by decide))) e
/-! ### spoilt things -/
theorem ixN_of {n j : Nat} (h : j < n) : ixN n (j : Int) = some j := by
  unfold ixN
  rw [if_pos (Int.natCast_nonneg j), if_pos (Int.ofNat_lt.mpr h), Int.toNat_natCast]
theorem ev_cat {ma mb : En → Option PyData} {env : En} {us vs : List PyData} (h1 : ma env = some (.list us)) (h2 : mb env = some (.list vs)) (h3 : us.length + vs.length ≤ 100000) : mCat ma mb env = some (.list (us ++ vs)) := by
  unfold mCat
  rw [h1, Option.bind_some, h2, Option.bind_some]
  exact if_pos (line_big h3)
theorem ev_item {i j : Nat} {mi me : En → Option PyData} {env : En} {d : PyData} {ds : List PyData} (h1 : me env = some d) (h2 : mVar i env = some (.list ds)) (h3 : mi env = some (.int (j : Int))) (h4 : j < ds.length) : mItem i mi me env = some (.nx (env.set i (some (.list (ds.set j d))))) := by
  unfold mItem
  rw [h1, Option.bind_some, h2, Option.bind_some, h3, Option.bind_some]
  show (ixN ds.length (j : Int)).bind _ = _
  rw [ixN_of h4]
  rfl
theorem sl_to {xs : List PyData} (k : Nat) : dSl (.list xs) none (some (k : Int)) = some (.list (xs.take k)) := by
  show some (PyData.list (cutD xs none (some (k : Int)))) = _
  rw [cutD_take]
theorem sl_from {xs : List PyData} (k : Nat) : dSl (.list xs) (some (k : Int)) none = some (.list (xs.drop k)) := by
  show some (PyData.list (cutD xs (some (k : Int)) none)) = _
  rw [cutD_drop]
theorem t_eqT {env : En} {i : Nat} {w k : Int} (hv : mVar i env = some (.int w)) (h : w = k) : mTst (mBin dEq (mVar i) (mC (.int k))) env = some true := ev_tst (ev_bin hv rfl (by rw [dEq_int, h]; simp))
theorem t_eqF {env : En} {i : Nat} {w k : Int} (hv : mVar i env = some (.int w)) (h : w ≠ k) : mTst (mBin dEq (mVar i) (mC (.int k))) env = some false := ev_tst (ev_bin hv rfl (by rw [dEq_int]; simp [h]))
theorem DxA.take {N j : Nat} {l : List PyData} (h : DxA N j l) (k : Nat) : DxA N j (l.take k) := fun d hd => h d (List.mem_of_mem_take hd)
theorem DxA.drop {N j : Nat} {l : List PyData} (h : DxA N j l) (k : Nat) : DxA N j (l.drop k) := fun d hd => h d (List.mem_of_mem_drop hd)
theorem DxA.mono {N N2 j j2 : Nat} (h : N ≤ N2) (h2 : j ≤ j2) {l : List PyData} (x : DxA N j l) : DxA N2 j2 l := fun d hd => (x d hd).mono h h2
theorem DxA.set {N j : Nat} {l : List PyData} (h : DxA N j l) (k : Nat) {d : PyData} (hd : Dx N j d) : DxA N j (l.set k d) := fun e he => by
  cases List.mem_or_eq_of_mem_set he with
  | inl z => exact h e z
  | inr z =>
    rw [z]
    exact hd
def spWay (self : List PyData → Option PyData) : En → Option Fl := (mIfS (mTst (mBin dEq (mVar 4) (mC (.int 0)))) (mAsg (mCat (mSl (mVar 2) mNoPart (mPart (mVar 3))) (mSl (mVar 2) (mPart (mBin dAdd (mVar 3) (mC (.int 1)))) mNoPart)) (gB 2)) (mIfS (mTst (mBin dEq (mVar 4) (mC (.int 1)))) (mAsg (mCat (mSl (mVar 2) mNoPart (mPart (mBin dAdd (mVar 3) (mC (.int 1))))) (mSl (mVar 2) (mPart (mVar 3)) mNoPart)) (gB 2)) (mIfS (mTst (mBin dEq (mVar 4) (mC (.int 2)))) (mAsg (mCat (mSl (mVar 2) (mPart (mVar 3)) mNoPart) (mSl (mVar 2) mNoPart (mPart (mVar 3)))) (gB 2)) (mIfS (mTst (mBin dEq (mVar 4) (mC (.int 3)))) (mAsg (mCat (mBin dAdd (mSl (mVar 2) mNoPart (mPart (mVar 3))) (mLst (mCons (mCB fm_law_odd (mCons (mSl (mVar 1) (mPart (mC (.int 3))) mNoPart) mNil)) mNil))) (mSl (mVar 2) (mPart (mVar 3)) mNoPart)) (gB 2)) (mIfS (mTst (mBin dGt (mVar 4) (mC (.int 4)))) (mItem 2 (mVar 3) (mCB self (mCons (mBin dIx (mVar 2) (mVar 3)) (mCons (mSl (mVar 1) (mPart (mC (.int 4))) mNoPart) mNil)))) mNext)))))
theorem spoil_way {self : List PyData → Option PyData} {x0 : Option PyData} {ps : List Int} {xs : List PyData} {j N q : Nat} {w : Int} (hx : DxA N q xs) (hl : xs.length ≤ N) (hN : 2 ≤ N) (hN2 : N ≤ 1000) (hj : j < xs.length) (hp : 9 ≤ ps.length)
    (hs : ∀ d, Dx N q d → ∃ d', self [d, .list ((ps.drop 4).map .int)] = some d' ∧ Dx (N + 1) (q + 2) d') :
    ∃ ys, spWay self [x0, some (.list (ps.map .int)), some (.list xs), some (.int (j : Int)), some (.int w)] = some (.nx [x0, some (.list (ps.map .int)), some (.list ys), some (.int (j : Int)), some (.int w)]) ∧ ys.length ≤ N + 1 ∧ DxA (N + 1) (q + 2) ys := by
  have hx1 : DxA (N + 1) (q + 2) xs := hx.mono (Nat.le_succ N) (by omega)
  have pl : ∀ z : Option PyData, mBin dAdd (mVar 3) (mC (.int 1)) [x0, some (.list (ps.map .int)), z, some (.int (j : Int)), some (.int w)] = some (.int ((j + 1 : Nat) : Int)) := fun z => ev_bin rfl rfl (dAdd_int _ _)
  have take_ := List.length_take (i := j) (l := xs)
  have take1 := List.length_take (i := j + 1) (l := xs)
  have drop_ := List.length_drop (i := j) (l := xs)
  have drop1 := List.length_drop (i := j + 1) (l := xs)
  unfold spWay
  by_cases w0 : w = 0
  · refine ⟨xs.take j ++ xs.drop (j + 1), ev_if1T (t_eqT rfl w0) (ev_set1 (ev_cat (ev_sl rfl rfl (ev_part rfl) (sl_to j)) (ev_sl rfl (ev_part (pl _)) rfl (sl_from (j + 1))) (by omega)) rfl), by rw [List.length_append]; omega, (hx1.take _).app (hx1.drop _)⟩
  by_cases w1 : w = 1
  · refine ⟨xs.take (j + 1) ++ xs.drop j, ev_if1F (t_eqF rfl w0) (ev_if1T (t_eqT rfl w1) (ev_set1 (ev_cat (ev_sl rfl rfl (ev_part (pl _)) (sl_to (j + 1))) (ev_sl rfl (ev_part rfl) rfl (sl_from j)) (by omega)) rfl)), by rw [List.length_append]; omega, (hx1.take _).app (hx1.drop _)⟩
  by_cases w2 : w = 2
  · refine ⟨xs.drop j ++ xs.take j, ev_if1F (t_eqF rfl w0) (ev_if1F (t_eqF rfl w1) (ev_if1T (t_eqT rfl w2) (ev_set1 (ev_cat (ev_sl rfl (ev_part rfl) rfl (sl_from j)) (ev_sl rfl rfl (ev_part rfl) (sl_to j)) (by omega)) rfl))), by rw [List.length_append]; omega, (hx1.drop _).app (hx1.take _)⟩
  by_cases w3 : w = 3
  · obtain ⟨o, ho, hd⟩ := odd_eq (ps := ps.drop 3) (by rw [List.length_drop]; omega) (N := N + 1) (by omega)
    have lodd : mLst (mCons (mCB fm_law_odd (mCons (mSl (mVar 1) (mPart (mC (.int 3))) mNoPart) mNil)) mNil) [x0, some (.list (ps.map .int)), some (.list xs), some (.int (j : Int)), some (.int w)] = some (.list [o]) := lst1 (ev_cb (ev_cons (ev_sl rfl (ev_part rfl) rfl (slice_ints_from (a := 3) rfl)) rfl) ho)
    have l1 : (xs.take j ++ [o]).length = j + 1 := by
      rw [List.length_append, take_, List.length_singleton]
      omega
    refine ⟨(xs.take j ++ [o]) ++ xs.drop j, ev_if1F (t_eqF rfl w0) (ev_if1F (t_eqF rfl w1) (ev_if1F (t_eqF rfl w2) (ev_if1T (t_eqT rfl w3) (ev_set1 (ev_cat (ev_bin (ev_sl rfl rfl (ev_part rfl) (sl_to j)) lodd (dAdd_list (by rw [take_, List.length_singleton]; omega))) (ev_sl rfl (ev_part rfl) rfl (sl_from j)) (by omega)) rfl)))), by rw [List.length_append]; omega, ((hx1.take _).app (.cons (hd.mono (Nat.le_refl _) (by omega)) .nil)).app (hx1.drop _)⟩
  by_cases w4 : 4 < w
  · have tg : mTst (mBin dGt (mVar 4) (mC (.int 4))) [x0, some (.list (ps.map .int)), some (.list xs), some (.int (j : Int)), some (.int w)] = some true := ev_tst (ev_bin rfl rfl (by rw [dGt_int, decide_eq_true w4]))
    obtain ⟨o, ho, hd⟩ := hs xs[j] (hx _ (List.getElem_mem hj))
    have at_ : mBin dIx (mVar 2) (mVar 3) [x0, some (.list (ps.map .int)), some (.list xs), some (.int (j : Int)), some (.int w)] = some xs[j] := ev_bin rfl rfl (atI_nat (List.getElem?_eq_getElem hj))
    refine ⟨xs.set j o, ev_if1F (t_eqF rfl w0) (ev_if1F (t_eqF rfl w1) (ev_if1F (t_eqF rfl w2) (ev_if1F (t_eqF rfl w3) (ev_if1T tg (ev_item (ev_cb (ev_cons at_ (ev_cons (ev_sl rfl (ev_part rfl) rfl (slice_ints_from (a := 4) rfl)) rfl)) ho) rfl rfl hj))))), by rw [List.length_set]; omega, hx1.set _ hd⟩
  · have tg : mTst (mBin dGt (mVar 4) (mC (.int 4))) [x0, some (.list (ps.map .int)), some (.list xs), some (.int (j : Int)), some (.int w)] = some false := ev_tst (ev_bin rfl rfl (by rw [dGt_int, decide_eq_false w4]))
    exact ⟨xs, ev_if1F (t_eqF rfl w0) (ev_if1F (t_eqF rfl w1) (ev_if1F (t_eqF rfl w2) (ev_if1F (t_eqF rfl w3) (ev_if1F tg rfl)))), by omega, hx1⟩
theorem dEq_bool (a b : Bool) : dEq (.bool a) (.bool b) = some (.bool (a == b)) := by
  cases a <;> cases b <;> rfl
def spTest : En → Option Bool := (mOrT (mNotT (mTru (mIsi (fun d => isiD "tuple" d || isiD "list" d) (mVar 0)))) (mOrT (mTst (mBin dEq (mCB bLen (mCons (mVar 0) mNil)) (mC (.int 0)))) (mOrT (mTst (mBin dLt (mCB bLen (mCons (mVar 1) mNil)) (mC (.int 9)))) (mTst (mBin dEq (mBin dMod (mBin dIx (mVar 1) (mC (.int 0))) (mC (.int 9))) (mC (.int 0)))))))
theorem spoil_odd {self : List PyData → Option PyData} {thing : PyData} {ps : List Int} {N q : Nat} (hp : 3 ≤ ps.length) (hN : 2 ≤ N)
    (ht : spTest [some thing, some (.list (ps.map .int)), none, none, none] = some true) : ∃ d', runB 5 (mb_law_spoilt self) [thing, .list (ps.map .int)] = some d' ∧ Dx (N + 1) (q + 2) d' := by
  obtain ⟨o, ho, hd⟩ := odd_eq (ps := ps.drop 1) (by rw [List.length_drop]; omega) (N := N + 1) (by omega)
  refine ⟨o, ?_, hd.mono (Nat.le_refl _) (by omega)⟩
  unfold mb_law_spoilt
  exact ev_run (d := o) (ev_ifR ht (ev_ret (ev_cb (ev_cons (ev_sl rfl (ev_part rfl) rfl (slice_ints_from (a := 1) rfl)) rfl) ho))) rfl
theorem spoil_seq {self : List PyData → Option PyData} {thing : PyData} {ps : List Int} {xs : List PyData} {N q : Nat} {t : Bool} (h1 : (isiD "tuple" thing || isiD "list" thing) = true) (h2 : bLen [thing] = some (.int (xs.length : Nat))) (h3 : bList [thing] = some (.list xs)) (h4 : isiD "tuple" thing = t)
    (hx : DxA N q xs) (hl : xs.length ≤ N) (hN : 2 ≤ N) (hN2 : N ≤ 1000) (hp : 3 ≤ ps.length)
    (hs : 9 ≤ ps.length → ∀ d, Dx N q d → ∃ d', self [d, .list ((ps.drop 4).map .int)] = some d' ∧ Dx (N + 1) (q + 2) d') :
    ∃ d', runB 5 (mb_law_spoilt self) [thing, .list (ps.map .int)] = some d' ∧ Dx (N + 1) (q + 3) d' := by
  have t1 : mNotT (mTru (mIsi (fun d => isiD "tuple" d || isiD "list" d) (mVar 0))) [some thing, some (.list (ps.map .int)), none, none, none] = some false := by
    refine ev_notT (b := true) (ev_tru (d := .bool true) (ev_isi rfl h1) rfl)
  have lenP : bLen [.list (ps.map .int)] = some (.int (ps.length : Nat)) := by
    show some (PyData.int ((ps.map PyData.int).length : Nat)) = _
    rw [List.length_map]
  have t2 : mTst (mBin dEq (mCB bLen (mCons (mVar 0) mNil)) (mC (.int 0))) [some thing, some (.list (ps.map .int)), none, none, none] = some (((xs.length : Nat) : Int) == 0) := ev_tst (ev_bin (ev_cb (ev_cons rfl rfl) h2) rfl (dEq_int _ _))
  have t3 : mTst (mBin dLt (mCB bLen (mCons (mVar 1) mNil)) (mC (.int 9))) [some thing, some (.list (ps.map .int)), none, none, none] = some (decide (((ps.length : Nat) : Int) < 9)) := ev_tst (ev_bin (ev_cb (ev_cons rfl rfl) lenP) rfl (dLt_int _ _))
  have t4 : mTst (mBin dEq (mBin dMod (mBin dIx (mVar 1) (mC (.int 0))) (mC (.int 9))) (mC (.int 0))) [some thing, some (.list (ps.map .int)), none, none, none] = some (ps.getD 0 0 % 9 == 0) := ev_tst (ev_bin (ev_bin (ev_bin rfl rfl (pick_get (k := 0) (by omega))) rfl (dMod_int (by decide))) rfl (dEq_int _ _))
  by_cases z2 : xs.length = 0
  · refine spoil_odd (q := q + 1) hp hN (ev_orF t1 (ev_orT ?_))
    rw [t2, z2]
    rfl
  have e2 : (((xs.length : Nat) : Int) == 0) = false := by
    simp
    exact fun q => z2 (by rw [q]; rfl)
  rw [e2] at t2
  by_cases z3 : ps.length < 9
  · refine spoil_odd (q := q + 1) hp hN (ev_orF t1 (ev_orF t2 (ev_orT ?_)))
    rw [t3, decide_eq_true (by omega)]
  rw [decide_eq_false (by omega)] at t3
  by_cases z4 : (ps.getD 0 0 % 9 == 0) = true
  · refine spoil_odd (q := q + 1) hp hN (ev_orF t1 (ev_orF t2 (ev_orF t3 ?_)))
    rw [t4, z4]
  rw [Bool.eq_false_iff.mpr z4] at t4
  have test := ev_orF t1 (ev_orF t2 (ev_orF t3 t4))
  have m0 := Int.emod_nonneg (ps.getD 1 0) (show ((xs.length : Nat) : Int) ≠ 0 by omega)
  have m1 := Int.emod_lt_of_pos (ps.getD 1 0) (show (0 : Int) < ((xs.length : Nat) : Int) by omega)
  obtain ⟨j, ej⟩ := Int.eq_ofNat_of_zero_le m0
  rw [ej] at m1
  have hj : j < xs.length := by omega
  have lenX : bLen [.list xs] = some (.int (xs.length : Nat)) := rfl
  obtain ⟨ys, y1, y2, y3⟩ := spoil_way (self := self) (x0 := some thing) (w := ps.getD 2 0 % 12) hx hl hN hN2 hj (by omega) (hs (by omega))
  have pre : ∀ {r : Option Fl} {n : En → Option Fl}, n [some thing, some (.list (ps.map .int)), some (.list ys), some (.int (j : Int)), some (.int (ps.getD 2 0 % 12))] = r → mSeq (spWay self) n [some thing, some (.list (ps.map .int)), some (.list xs), some (.int (j : Int)), some (.int (ps.getD 2 0 % 12))] = r := fun h => ev_seq y1 h
  have last : mTst (mBin dEq (mIsi (isiD "tuple") (mVar 0)) (mBin dEq (mVar 4) (mC (.int 4)))) [some thing, some (.list (ps.map .int)), some (.list ys), some (.int (j : Int)), some (.int (ps.getD 2 0 % 12))] = some (t == (ps.getD 2 0 % 12 == 4)) := ev_tst (ev_bin (ev_isi rfl h4) (ev_bin rfl rfl (dEq_int _ _)) (dEq_bool _ _))
  have body : ∀ {d' : PyData}, mSeq (mIfS (mTst (mBin dEq (mIsi (isiD "tuple") (mVar 0)) (mBin dEq (mVar 4) (mC (.int 4))))) (mRet (mVar 2)) mNext) (mRet (mCB bTuple (mCons (mVar 2) mNil))) [some thing, some (.list (ps.map .int)), some (.list ys), some (.int (j : Int)), some (.int (ps.getD 2 0 % 12))] = some (.rt d') → runB 5 (mb_law_spoilt self) [thing, .list (ps.map .int)] = some d' := fun {d'} h => by
    unfold mb_law_spoilt
    refine ev_run (d := d') (ev_ifF test rfl (ev_set (ev_cb (ev_cons rfl rfl) h3) (ev_set (d := .int (j : Int)) (ev_bin (ev_bin rfl rfl (pick_get (k := 1) (by omega))) (ev_cb (ev_cons rfl rfl) lenX) ?_) (ev_set (d := .int (ps.getD 2 0 % 12)) (ev_bin (ev_bin rfl rfl (pick_get (k := 2) (by omega))) rfl (dMod_int (by decide))) (pre h))))) rfl
    rw [dMod_int (by omega), ej]
  cases hb : (t == (ps.getD 2 0 % 12 == 4)) with
  | true =>
    rw [hb] at last
    exact ⟨.list ys, body (ev_ifR last (ev_ret rfl)), .list y2 y3⟩
  | false =>
    rw [hb] at last
    exact ⟨.tuple ys, body (ev_ifF last rfl (ev_ret (ev_cb (ev_cons rfl rfl) rfl))), .tuple y2 y3⟩
theorem spoilt_eq : ∀ (n : Nat) {ps : List Int} {N q : Nat} {d : PyData}, 3 ≤ ps.length → ps.length ≤ 4 * n + 8 → 2 ≤ N → N ≤ 1000 → Dx N q d → ∃ d', fm_law_spoilt (n + 1) [d, .list (ps.map .int)] = some d' ∧ Dx (N + 1) (q + 2) d' := fun n => by
  induction n with
  | zero =>
    intro ps N q d hp hq hN hN2 hd
    show ∃ d', runB 5 (mb_law_spoilt (fm_law_spoilt 0)) [d, .list (ps.map .int)] = some d' ∧ Dx (N + 1) (q + 2) d'
    have bad : ∀ q, 9 ≤ ps.length → ∀ d, Dx N q d → ∃ d', fm_law_spoilt 0 [d, .list ((ps.drop 4).map .int)] = some d' ∧ Dx (N + 1) (q + 2) d' := fun q h => absurd h (by omega)
    cases hd with
    | list l h => exact spoil_seq rfl rfl rfl (t := false) rfl h l hN hN2 hp (bad _)
    | tuple l h => exact spoil_seq rfl rfl rfl (t := true) rfl h l hN hN2 hp (bad _)
    | _ => exact spoil_odd hp hN (ev_orT rfl)
  | succ n ih =>
    intro ps N q d hp hq hN hN2 hd
    show ∃ d', runB 5 (mb_law_spoilt (fm_law_spoilt (n + 1))) [d, .list (ps.map .int)] = some d' ∧ Dx (N + 1) (q + 2) d'
    have good : ∀ q, 9 ≤ ps.length → ∀ d, Dx N q d → ∃ d', fm_law_spoilt (n + 1) [d, .list ((ps.drop 4).map .int)] = some d' ∧ Dx (N + 1) (q + 2) d' := fun q h d hd => ih (by rw [List.length_drop]; omega) (by rw [List.length_drop]; omega) hN hN2 hd
    cases hd with
    | list l h => exact spoil_seq rfl rfl rfl (t := false) rfl h l hN hN2 hp (good _)
    | tuple l h => exact spoil_seq rfl rfl rfl (t := true) rfl h l hN hN2 hp (good _)
    | _ => exact spoil_odd hp hN (ev_orT rfl)
/-! ### the words of conditions -/
theorem tabAt_cons (x : Str) (d : PyData) (tab : List (Str × PyData)) (w : Str) : tabAt ((x, d) :: tab) w = if x = w then some d else tabAt tab w := by
  unfold tabAt
  rw [List.find?_cons]
  by_cases z : x = w
  · rw [if_pos z, decide_eq_true z]
    rfl
  · rw [if_neg z, decide_eq_false z]
def kinds (w : Str) : Option (List Str) := (if ("yes" : Str) = w then some [] else (if ("is" : Str) = w then some [("column" : Str), ("value" : Str)] else (if ("below" : Str) = w then some [("column" : Str), ("value" : Str)] else (if ("same" : Str) = w then some [("column" : Str), ("column" : Str)] else (if ("mine" : Str) = w then some [("column" : Str)] else (if ("empty" : Str) = w then some [("column" : Str)] else (if ("loud" : Str) = w then some [("column" : Str)] else (if ("has" : Str) = w then some [("table" : Str), ("column" : Str), ("there" : Str), ("condition" : Str)] else (if ("not" : Str) = w then some [("condition" : Str)] else (if ("and" : Str) = w then some [("condition" : Str), ("condition" : Str)] else (if ("or" : Str) = w then some [("condition" : Str), ("condition" : Str)] else none)))))))))))
theorem tab_kinds (w : Str) : tabAt tab_FORMS w = (kinds w).map fun ks => .tuple (ks.map .str) := by
  unfold kinds tab_FORMS
  simp only [tabAt_cons]
  by_cases h_yes : ("yes" : Str) = w
  · rw [if_pos h_yes, if_pos h_yes]
    rfl
  rw [if_neg h_yes, if_neg h_yes]
  by_cases h_is : ("is" : Str) = w
  · rw [if_pos h_is, if_pos h_is]
    rfl
  rw [if_neg h_is, if_neg h_is]
  by_cases h_below : ("below" : Str) = w
  · rw [if_pos h_below, if_pos h_below]
    rfl
  rw [if_neg h_below, if_neg h_below]
  by_cases h_same : ("same" : Str) = w
  · rw [if_pos h_same, if_pos h_same]
    rfl
  rw [if_neg h_same, if_neg h_same]
  by_cases h_mine : ("mine" : Str) = w
  · rw [if_pos h_mine, if_pos h_mine]
    rfl
  rw [if_neg h_mine, if_neg h_mine]
  by_cases h_empty : ("empty" : Str) = w
  · rw [if_pos h_empty, if_pos h_empty]
    rfl
  rw [if_neg h_empty, if_neg h_empty]
  by_cases h_loud : ("loud" : Str) = w
  · rw [if_pos h_loud, if_pos h_loud]
    rfl
  rw [if_neg h_loud, if_neg h_loud]
  by_cases h_has : ("has" : Str) = w
  · rw [if_pos h_has, if_pos h_has]
    rfl
  rw [if_neg h_has, if_neg h_has]
  by_cases h_not : ("not" : Str) = w
  · rw [if_pos h_not, if_pos h_not]
    rfl
  rw [if_neg h_not, if_neg h_not]
  by_cases h_and : ("and" : Str) = w
  · rw [if_pos h_and, if_pos h_and]
    rfl
  rw [if_neg h_and, if_neg h_and]
  by_cases h_or : ("or" : Str) = w
  · rw [if_pos h_or, if_pos h_or]
    rfl
  rw [if_neg h_or, if_neg h_or]
  rfl
theorem kinds_cases {w : Str} {ks : List Str} (h : kinds w = some ks) : (w = "yes" ∧ ks = []) ∨ (w = "is" ∧ ks = [("column" : Str), ("value" : Str)]) ∨ (w = "below" ∧ ks = [("column" : Str), ("value" : Str)]) ∨ (w = "same" ∧ ks = [("column" : Str), ("column" : Str)]) ∨ (w = "mine" ∧ ks = [("column" : Str)]) ∨ (w = "empty" ∧ ks = [("column" : Str)]) ∨ (w = "loud" ∧ ks = [("column" : Str)]) ∨ (w = "has" ∧ ks = [("table" : Str), ("column" : Str), ("there" : Str), ("condition" : Str)]) ∨ (w = "not" ∧ ks = [("condition" : Str)]) ∨ (w = "and" ∧ ks = [("condition" : Str), ("condition" : Str)]) ∨ (w = "or" ∧ ks = [("condition" : Str), ("condition" : Str)]) := by
  unfold kinds at h
  by_cases h_yes : ("yes" : Str) = w
  · rw [if_pos h_yes] at h
    exact .inl ⟨h_yes.symm, (Option.some.inj h).symm⟩
  rw [if_neg h_yes] at h
  by_cases h_is : ("is" : Str) = w
  · rw [if_pos h_is] at h
    exact .inr (.inl ⟨h_is.symm, (Option.some.inj h).symm⟩)
  rw [if_neg h_is] at h
  by_cases h_below : ("below" : Str) = w
  · rw [if_pos h_below] at h
    exact .inr (.inr (.inl ⟨h_below.symm, (Option.some.inj h).symm⟩))
  rw [if_neg h_below] at h
  by_cases h_same : ("same" : Str) = w
  · rw [if_pos h_same] at h
    exact .inr (.inr (.inr (.inl ⟨h_same.symm, (Option.some.inj h).symm⟩)))
  rw [if_neg h_same] at h
  by_cases h_mine : ("mine" : Str) = w
  · rw [if_pos h_mine] at h
    exact .inr (.inr (.inr (.inr (.inl ⟨h_mine.symm, (Option.some.inj h).symm⟩))))
  rw [if_neg h_mine] at h
  by_cases h_empty : ("empty" : Str) = w
  · rw [if_pos h_empty] at h
    exact .inr (.inr (.inr (.inr (.inr (.inl ⟨h_empty.symm, (Option.some.inj h).symm⟩)))))
  rw [if_neg h_empty] at h
  by_cases h_loud : ("loud" : Str) = w
  · rw [if_pos h_loud] at h
    exact .inr (.inr (.inr (.inr (.inr (.inr (.inl ⟨h_loud.symm, (Option.some.inj h).symm⟩))))))
  rw [if_neg h_loud] at h
  by_cases h_has : ("has" : Str) = w
  · rw [if_pos h_has] at h
    exact .inr (.inr (.inr (.inr (.inr (.inr (.inr (.inl ⟨h_has.symm, (Option.some.inj h).symm⟩)))))))
  rw [if_neg h_has] at h
  by_cases h_not : ("not" : Str) = w
  · rw [if_pos h_not] at h
    exact .inr (.inr (.inr (.inr (.inr (.inr (.inr (.inr (.inl ⟨h_not.symm, (Option.some.inj h).symm⟩))))))))
  rw [if_neg h_not] at h
  by_cases h_and : ("and" : Str) = w
  · rw [if_pos h_and] at h
    exact .inr (.inr (.inr (.inr (.inr (.inr (.inr (.inr (.inr (.inl ⟨h_and.symm, (Option.some.inj h).symm⟩)))))))))
  rw [if_neg h_and] at h
  by_cases h_or : ("or" : Str) = w
  · rw [if_pos h_or] at h
    exact .inr (.inr (.inr (.inr (.inr (.inr (.inr (.inr (.inr (.inr (⟨h_or.symm, (Option.some.inj h).symm⟩))))))))))
  rw [if_neg h_or] at h
  cases h
theorem dIn_tup {neg : Bool} {w : Str} {ws : List Str} (h1 : SeqAt.shaped (.str w) = true) (h2 : ∀ x ∈ ws, SeqAt.shaped (.str x) = true) : dIn neg (.str w) (.tuple (ws.map .str)) = some (.bool (xor neg (decide (w ∈ ws)))) := dIn_strs h1 h2
def colOk (cols : List Str) (d : PyData) : Bool := match d with
  | .str x => decide (x ∈ cols)
  | _ => false
theorem any_not_str {d : PyData} (h : ∀ x, d ≠ .str x) (cols : List Str) : ((cols.map PyData.str).any fun z => PyData.eqv z d) = false := by
  rw [List.any_map, List.any_eq_false]
  intro x _
  show ¬ PyData.eqv (.str x) d = true
  cases d with
  | str y => exact absurd rfl (h y)
  | _ => simp [PyData.eqv]
/-- names as data: a tuple or a list of them -/
inductive NmS (cols : List Str) : PyData → Prop
  | tup : NmS cols (.tuple (cols.map .str))
  | lst : NmS cols (.list (cols.map .str))
theorem dIn_col {neg : Bool} {N k : Nat} {d c : PyData} {cols : List Str} (hd : Dx N k d) (hk : k ≤ 64) (hc : ∀ x ∈ cols, SeqAt.shaped (.str x) = true) (hn : NmS cols c) : dIn neg d c = some (.bool (xor neg (colOk cols d))) := by
  have sd := hd.shaped hk
  cases hn with
  | tup =>
    by_cases z : ∃ x, d = .str x
    · obtain ⟨x, rfl⟩ := z
      exact dIn_tup sd hc
    · have nz : ∀ x, d ≠ .str x := fun x q => z ⟨x, q⟩
      show (if SeqAt.shaped d = true ∧ SeqAt.shaped (.list (cols.map .str)) = true then some (PyData.bool (xor neg ((cols.map PyData.str).any fun z => PyData.eqv z d))) else none) = _
      rw [if_pos ⟨sd, shaped_strs hc⟩, any_not_str nz]
      have e : colOk cols d = false := by
        cases d with
        | str x => exact absurd rfl (nz x)
        | _ => rfl
      rw [e]
  | lst =>
    by_cases z : ∃ x, d = .str x
    · obtain ⟨x, rfl⟩ := z
      exact dIn_strs sd hc
    · have nz : ∀ x, d ≠ .str x := fun x q => z ⟨x, q⟩
      show (if SeqAt.shaped d = true ∧ SeqAt.shaped (.list (cols.map .str)) = true then some (PyData.bool (xor neg ((cols.map PyData.str).any fun z => PyData.eqv z d))) else none) = _
      rw [if_pos ⟨sd, shaped_strs hc⟩, any_not_str nz]
      have e : colOk cols d = false := by
        cases d with
        | str x => exact absurd rfl (nz x)
        | _ => rfl
      rw [e]
def nameIs (x : Str) (d : PyData) : Bool := match d with
  | .str y => decide (x = y)
  | _ => false
theorem dEq_name {N k : Nat} {x : Str} {d : PyData} (hx : SeqAt.shaped (.str x) = true) (hd : Dx N k d) (hk : k ≤ 64) : dEq (.str x) d = some (.bool (nameIs x d)) := by
  rw [dEq, if_pos ⟨hx, hd.shaped hk⟩]
  refine congrArg (fun told => some (PyData.bool told)) ?_
  cases d with
  | str y =>
    rw [PyData.eqv, nameIs]
    by_cases z : x = y
    · simp [z]
    · simp [z]
  | _ => simp [PyData.eqv, nameIs]
theorem dEq_str {x y : Str} (hx : SeqAt.shaped (.str x) = true) (hy : SeqAt.shaped (.str y) = true) : dEq (.str x) (.str y) = some (.bool (decide (x = y))) := by
  rw [dEq, if_pos ⟨hx, hy⟩, PyData.eqv]
  refine congrArg (fun told => some (PyData.bool told)) ?_
  by_cases z : x = y
  · simp [z]
  · simp [z]
def tabOf (g : List Tab) (d : PyData) : Option Tab := g.find? fun t => nameIs t.name d
def tabD (o : Option Tab) : PyData := match o with
  | some t => t.enc
  | none => .none
theorem find_loop {N k : Nat} {d : PyData} (hd : Dx N k d) (hk : k ≤ 64) (x0 : Option PyData) : ∀ (g : List Tab) (z : Option PyData), (∀ t ∈ g, t.Gd) → (∃ t, tabOf g d = some t ∧ loopD (gB 2) lb1_find_table (g.map Tab.enc) [x0, some d, z] = some (.rt t.enc)) ∨ (tabOf g d = none ∧ ∃ z', loopD (gB 2) lb1_find_table (g.map Tab.enc) [x0, some d, z] = some (.nx [x0, some d, z']))
  | [], z, _ => .inr ⟨rfl, z, rfl⟩
  | t :: g, z, hg => by
    have test : mTst (mBin dEq (mBin dIx (mVar 2) (mC (.int 0))) (mVar 1)) [x0, some d, some t.enc] = some (nameIs t.name d) := ev_tst (ev_bin (a := .str t.name) (ev_bin rfl rfl rfl) rfl (dEq_name (hg t List.mem_cons_self).name.shaped hd hk))
    have un : tabOf (t :: g) d = if nameIs t.name d = true then some t else tabOf g d := by
      unfold tabOf
      rw [List.find?_cons]
      cases nameIs t.name d <;> rfl
    cases hn : nameIs t.name d with
    | true =>
      rw [hn] at test un
      refine .inl ⟨t, un, ?_⟩
      have b : lb1_find_table [x0, some d, some t.enc] = some (.rt t.enc) := ev_if1T test (ev_ret rfl)
      show ((gB 2 t.enc [x0, some d, z]).bind _) = _
      show ((lb1_find_table [x0, some d, some t.enc]).bind _) = _
      rw [b]
      rfl
    | false =>
      rw [hn] at test un
      have b : lb1_find_table [x0, some d, some t.enc] = some (.nx [x0, some d, some t.enc]) := ev_if1F test rfl
      have step : loopD (gB 2) lb1_find_table ((t :: g).map Tab.enc) [x0, some d, z] = loopD (gB 2) lb1_find_table (g.map Tab.enc) [x0, some d, some t.enc] := by
        show ((lb1_find_table [x0, some d, some t.enc]).bind _) = _
        rw [b]
        rfl
      rw [step, un, if_neg Bool.false_ne_true]
      exact find_loop hd hk x0 g _ fun u hu => hg u (List.mem_cons_of_mem _ hu)
theorem ev_forRt {mi : En → Option (List PyData)} {b : PyData → En → Option En} {lb n : En → Option Fl} {env : En} {ds : List PyData} {d : PyData} (h : mi env = some ds) (hl : loopD b lb ds env = some (.rt d)) : mSeq (mFor mi b lb) n env = some (.rt d) := by
  unfold mSeq mFor
  rw [h, Option.bind_some, hl]
  rfl
theorem find_table_eq {N k : Nat} {d : PyData} {g : List Tab} (hd : Dx N k d) (hk : k ≤ 64) (hg : ∀ t ∈ g, t.Gd) : fm_find_table [.tuple (g.map Tab.enc), d] = some (tabD (tabOf g d)) := by
  unfold fm_find_table mb_find_table
  rcases find_loop hd hk (some (.tuple (g.map Tab.enc))) g none hg with ⟨t, e, l⟩ | ⟨e, z, l⟩
  · rw [e]
    exact ev_run (d := t.enc) (ev_forRt rfl l) rfl
  · rw [e]
    exact ev_run (d := .none) (ev_for rfl l (ev_ret rfl)) rfl
theorem names_lc {t : Tab} (g : t.Gd) {env : En} {vs : List Nat} {m : En → Option PyData} {j : Nat} {le : En → Option PyData} (h : m env = some t.enc) (he : ∀ c : Col, le ((wipeD env vs).set j (some c.enc)) = some (.str c.name)) :
    mLc vs (mIt (mBin dIx m (mC (.int 2)))) (gB j) mYes le env = some (.list ((t.cols.map Col.name).map .str)) := by
  have few := g.few
  refine ev_lc (ds := t.cols.map Col.enc) (ev_it (d := .tuple (t.cols.map Col.enc)) (ev_bin h rfl rfl) rfl) (es := (t.cols.map Col.name).map .str) ?_ (line_big (by rw [List.length_map, List.length_map]; omega))
  refine (lc_map (f := fun d => match d with | .tuple (x :: _) => x | d => d) fun d hd => ?_).trans ?_
  · obtain ⟨c, hc, rfl⟩ := List.mem_map.mp hd
    exact ⟨_, gB_ap _ _ _, rfl, he c⟩
  · rw [List.map_map, List.map_map]
    rfl
theorem column_names_eq {t : Tab} (g : t.Gd) : fm_column_names [t.enc] = some (.tuple ((t.cols.map Col.name).map .str)) := by
  unfold fm_column_names mb_column_names
  exact ev_run (d := .tuple ((t.cols.map Col.name).map .str)) (ev_ret (ev_cb (ev_cons (names_lc g rfl fun c => rfl) rfl) rfl)) rfl
/-! ### the form -/
def wordOf (d : PyData) : PyData := match d with
  | .tuple (.str w :: _) => .str w
  | _ => .none
theorem word_of_eq (d : PyData) : fm_word_of [d] = some (wordOf d) := by
  unfold fm_word_of mb_word_of
  have no : isiD "tuple" d = false → runB 1 mb_word_of [d] = some .none := fun q => by
    unfold mb_word_of
    exact ev_run (d := .none) (ev_ifR (not_three rfl q) (ev_ret rfl)) rfl
  cases d with
  | tuple xs =>
    cases xs with
    | nil => exact ev_run (d := .none) (ev_ifR (three rfl (ev_orT rfl)) (ev_ret rfl)) rfl
    | cons x xs =>
      have ix : mBin dIx (mVar 0) (mC (.int 0)) [some (.tuple (x :: xs))] = some x := ev_bin rfl rfl (by
        show atI (x :: xs) 0 = some x
        exact atI_nat (j := 0) rfl)
      have ne : mNotT (mTru (mVar 0)) [some (.tuple (x :: xs))] = some false := rfl
      have is : mTru (mIsi (isiD "str") (mBin dIx (mVar 0) (mC (.int 0)))) [some (.tuple (x :: xs))] = some (isiD "str" x) := ev_tru (ev_isi ix rfl) rfl
      cases x with
      | str w =>
        exact ev_run (d := .str w) (ev_ifF (three rfl (ev_orF ne (ev_notT is))) rfl (ev_ret ix)) rfl
      | _ => exact ev_run (d := .none) (ev_ifR (three rfl (ev_orF ne (ev_notT is))) (ev_ret rfl)) rfl
  | _ => exact no rfl
def formOk (d : PyData) : Bool := match d with
  | .tuple (.str w :: args) => (match kinds w with
    | some ks => decide (args.length = ks.length)
    | none => false)
  | _ => false
theorem kinds_few {w : Str} {ks : List Str} (h : kinds w = some ks) : ks.length ≤ 4 := by
  rcases kinds_cases h with ⟨_, rfl⟩ | ⟨_, rfl⟩ | ⟨_, rfl⟩ | ⟨_, rfl⟩ | ⟨_, rfl⟩ | ⟨_, rfl⟩ | ⟨_, rfl⟩ | ⟨_, rfl⟩ | ⟨_, rfl⟩ | ⟨_, rfl⟩ | ⟨_, rfl⟩ <;> decide
theorem has_form_eq (d : PyData) : fm_has_form [d] = some (.bool (formOk d)) := by
  unfold fm_has_form mb_has_form
  have wd := word_of_eq d
  refine ev_run (d := .bool (formOk d)) (ev_set (d := wordOf d) (ev_cb (ev_cons rfl rfl) wd) (ev_ret ?_)) rfl
  have no : wordOf d = .none → formOk d = false → mAnd (mUn (inTab tab_FORMS) (mVar 1)) (mBin dEq (mCB bLen (mCons (mVar 0) mNil)) (mBin dAdd (mC (.int 1)) (mCB bLen (mCons (mUn (getTab tab_FORMS) (mVar 1)) mNil)))) [some d, some (wordOf d)] = some (.bool (formOk d)) := fun q1 q2 => by
    rw [q1, q2]
    exact ev_andVF (ev_un rfl rfl)
  cases d with
  | tuple xs =>
    cases xs with
    | nil => exact no rfl rfl
    | cons x xs =>
      cases x with
      | str w =>
        have tk := tab_kinds w
        cases hk : kinds w with
        | none =>
          rw [hk] at tk
          have e : formOk (.tuple (.str w :: xs)) = false := by
            rw [formOk, hk]
          rw [e]
          refine ev_andVF (ev_un (d := .str w) rfl ?_)
          show some (PyData.bool (tabAt tab_FORMS w).isSome) = _
          rw [tk]
          rfl
        | some ks =>
          rw [hk] at tk
          have e : formOk (.tuple (.str w :: xs)) = decide (xs.length = ks.length) := by
            rw [formOk, hk]
          have g1 : mUn (inTab tab_FORMS) (mVar 1) [some (.tuple (.str w :: xs)), some (.str w)] = some (.bool true) := by
            refine ev_un (d := .str w) rfl ?_
            show some (PyData.bool (tabAt tab_FORMS w).isSome) = _
            rw [tk]
            rfl
          rw [e]
          refine (ev_andV (a := true) (b := decide (xs.length = ks.length)) g1 (ev_bin (a := .int ((xs.length + 1 : Nat) : Int)) (b := .int (1 + ((ks.length : Nat) : Int))) (ev_cb (ev_cons rfl rfl) rfl) (ev_bin rfl (ev_cb (ev_cons (d := .tuple (ks.map .str)) (ev_un (d := .str w) rfl tk) rfl) ?_) (dAdd_int _ _)) ?_)).trans (by rw [Bool.true_and])
          · show some (PyData.int ((ks.map PyData.str).length : Nat)) = _
            rw [List.length_map]
          · rw [dEq_int]
            refine congrArg (fun told => some (PyData.bool told)) ?_
            by_cases z : xs.length = ks.length
            · rw [decide_eq_true z, z]
              simp
              omega
            · rw [decide_eq_false z]
              simp
              omega
      | _ => exact no rfl rfl
  | _ => exact no rfl rfl
theorem loop_all {bind : PyData → En → Option En} {body : En → Option Fl} (Inv : En → Prop) {r : PyData} : ∀ {ds : List PyData} {bs : List Bool} {env : En}, ds.length = bs.length → Inv env →
    (∀ (i : Nat) (d : PyData) (b : Bool) (e : En), ds[i]? = some d → bs[i]? = some b → Inv e → ∃ e1, bind d e = some e1 ∧ (b = true → ∃ e2, body e1 = some (.nx e2) ∧ Inv e2) ∧ (b = false → body e1 = some (.rt r))) →
    (bs.all id = true → ∃ e', loopD bind body ds env = some (.nx e') ∧ Inv e') ∧ (bs.all id = false → loopD bind body ds env = some (.rt r))
  | [], [], env, _, h0, _ => ⟨fun _ => ⟨env, rfl, h0⟩, fun h => (by cases h)⟩
  | [], _ :: _, _, h, _, _ => by cases h
  | _ :: _, [], _, h, _, _ => by cases h
  | d :: ds, b :: bs, env, hl, h0, step => by
    obtain ⟨e1, h1, h2, h3⟩ := step 0 d b env rfl rfl h0
    have un : loopD bind body (d :: ds) env = (body e1).bind fun f => match f with
        | .nx e => loopD bind body ds e
        | .ct e => loopD bind body ds e
        | .bk e => some (.nx e)
        | .rt d => some (.rt d) := by
      show ((bind d env).bind _) = _
      first
        | (rw [h1, Option.bind_some]; done)
        | (rw [h1, Option.bind_some]; rfl)
    cases b with
    | false =>
      refine ⟨fun h => (by cases h), fun _ => ?_⟩
      rw [un, h3 rfl]
      rfl
    | true =>
      obtain ⟨e2, h4, h5⟩ := h2 rfl
      have ih := loop_all Inv (r := r) (ds := ds) (bs := bs) (env := e2) (by simpa using hl) h5 fun i d b e hd hb he => step (i + 1) d b e (by simpa using hd) (by simpa using hb) he
      rw [un, h4]
      exact ih
theorem enum_at {ds : List PyData} {i : Nat} {d : PyData} (h : (enumD ds)[i]? = some d) : ∃ x, ds[i]? = some x ∧ d = .tuple [.int (i : Nat), x] := enumD_get h
theorem dIxT {ds : List PyData} {i : Nat} {d : PyData} (h : ds[i]? = some d) : dIx (.tuple ds) (.int (i : Nat)) = some d := atI_nat h
/-! ### one part of a condition -/
def mostV (w : Str) : Int := if w = "is" then 9 else 10
def okKind (w : Str) (cols : List Str) (k : Str) (a : PyData) : Bool := if k = "column" then colOk cols a else if k = "value" then within a 0 (mostV w) else true
def namesTab (g : List Tab) (args : List PyData) : Bool := match args with
  | t :: _ :: b :: _ => (match tabOf g t with
    | some tb => colOk (tb.cols.map Col.name) b
    | none => false)
  | _ => false
def argsOk (g : List Tab) (cols : List Str) (w : Str) (ks : List Str) (args : List PyData) : Bool := decide (args.length = ks.length) && ((!decide (w = "has") || namesTab g args) && (List.zipWith (okKind w cols) ks args).all id)
def partOk (g : List Tab) (cols : List Str) (d : PyData) : Bool := match d with
  | .tuple (.str w :: args) => (match kinds w with
    | some ks => argsOk g cols w ks args
    | none => false)
  | _ => false
theorem Gd_names {t : Tab} (g : t.Gd) : ∀ x ∈ t.cols.map Col.name, SeqAt.shaped (.str x) = true := fun x hx => by
  obtain ⟨c, hc, rfl⟩ := List.mem_map.mp hx
  exact (g.cols.1 c hc).2.shaped
theorem tabOf_mem {g : List Tab} {d : PyData} {t : Tab} (h : tabOf g d = some t) : t ∈ g := List.mem_of_find?_eq_some h
theorem names_table_eq {N k : Nat} {g : List Tab} {w : Str} {t a b c : PyData} (hg : ∀ t ∈ g, t.Gd) (ht : Dx N k t) (hb : Dx N k b) (hk : k ≤ 64) : fm_names_table [.tuple (g.map Tab.enc), .tuple [.str w, t, a, b, c]] = some (.bool (namesTab g [t, a, b, c])) := by
  unfold fm_names_table mb_names_table
  have ft := find_table_eq ht hk hg
  refine ev_run (d := .bool (namesTab g [t, a, b, c])) (ev_set (d := tabD (tabOf g t)) (ev_cb (ev_cons rfl (ev_cons (d := t) rfl rfl)) ft) (ev_ret ?_)) rfl
  cases hf : tabOf g t with
  | none =>
    have e : namesTab g [t, a, b, c] = false := by
      rw [namesTab, hf]
    rw [e]
    exact ev_andVF (ev_bin rfl rfl rfl)
  | some tb =>
    have e : namesTab g [t, a, b, c] = colOk (tb.cols.map Col.name) b := by
      rw [namesTab, hf]
    have gd := hg tb (tabOf_mem hf)
    rw [e]
    refine (ev_andV (a := true) (b := colOk (tb.cols.map Col.name) b) (ev_bin (a := tb.enc) rfl rfl rfl) (ev_bin (a := b) rfl (ev_cb (ev_cons (d := tb.enc) rfl rfl) (column_names_eq gd)) ?_)).trans (by rw [Bool.true_and])
    rw [dIn_col hb hk (Gd_names gd) .tup, Bool.false_xor]
theorem kinds_word {w : Str} {ks : List Str} (h : kinds w = some ks) : SeqAt.shaped (.str w) = true ∧ (∀ x ∈ ks, SeqAt.shaped (.str x) = true) ∧ (("value" : Str) ∈ ks → tabAt tab_MOST_VALUES w = some (.int (mostV w))) := by
  rcases kinds_cases h with ⟨rfl, rfl⟩ | ⟨rfl, rfl⟩ | ⟨rfl, rfl⟩ | ⟨rfl, rfl⟩ | ⟨rfl, rfl⟩ | ⟨rfl, rfl⟩ | ⟨rfl, rfl⟩ | ⟨rfl, rfl⟩ | ⟨rfl, rfl⟩ | ⟨rfl, rfl⟩ | ⟨rfl, rfl⟩
  case inr.inl =>
    refine ⟨by decide +kernel, fun x hx => ?_, fun _ => ?_⟩
    · simp only [List.mem_cons, List.not_mem_nil, or_false] at hx
      rcases hx with rfl | rfl <;> decide +kernel
    · unfold tab_MOST_VALUES
      rw [tabAt_cons, if_pos rfl]
      rfl
  case inr.inr.inl =>
    refine ⟨by decide +kernel, fun x hx => ?_, fun _ => ?_⟩
    · simp only [List.mem_cons, List.not_mem_nil, or_false] at hx
      rcases hx with rfl | rfl <;> decide +kernel
    · unfold tab_MOST_VALUES
      rw [tabAt_cons, if_neg (by decide +kernel), tabAt_cons, if_pos rfl]
      rfl
  all_goals
    refine ⟨by decide +kernel, fun x hx => ?_, fun h => ?_⟩
    · simp only [List.mem_cons, List.not_mem_nil, or_false] at hx
      try (exact hx.elim)
      try (rcases hx with rfl | rfl | rfl | rfl <;> decide +kernel)
      try (rcases hx with rfl | rfl <;> decide +kernel)
      try (subst hx; decide +kernel)
    · exact absurd h (by decide +kernel)
theorem is_part_eq {N k : Nat} {g : List Tab} {cols : List Str} {d : PyData} (hg : ∀ t ∈ g, t.Gd) (hc : ∀ x ∈ cols, SeqAt.shaped (.str x) = true) (hd : Dx N k d) (hk : k ≤ 64) : fm_is_part [.tuple (g.map Tab.enc), .tuple (cols.map .str), d] = some (.bool (partOk g cols d)) := by
  unfold fm_is_part mb_is_part
  have fo := has_form_eq d
  have t1 : mTru (mCB fm_has_form (mCons (mVar 2) mNil)) [some (.tuple (g.map Tab.enc)), some (.tuple (cols.map .str)), some d, none, none, none] = some (formOk d) := ev_tru (ev_cb (ev_cons rfl rfl) fo) rfl
  have no : formOk d = false → partOk g cols d = false → runB 6 mb_is_part [.tuple (g.map Tab.enc), .tuple (cols.map .str), d] = some (.bool (partOk g cols d)) := fun q1 q2 => by
    rw [q1] at t1
    rw [q2]
    unfold mb_is_part
    exact ev_run (d := .bool false) (ev_ifR (ev_notT t1) (ev_ret rfl)) rfl
  cases hd with
  | @tuple k xs l hx =>
    cases xs with
    | nil => exact no rfl rfl
    | cons x args =>
      cases x with
      | str w =>
        cases hw : kinds w with
        | none =>
          refine no ?_ ?_
          · rw [formOk, hw]
          · rw [partOk, hw]
        | some ks =>
          have ef : formOk (.tuple (.str w :: args)) = decide (args.length = ks.length) := by
            rw [formOk, hw]
          have ep : partOk g cols (.tuple (.str w :: args)) = argsOk g cols w ks args := by
            rw [partOk, hw]
          by_cases hl : args.length = ks.length
          · rw [ef, decide_eq_true hl] at t1
            have few := kinds_few hw
            obtain ⟨sw, sk, mv⟩ := kinds_word hw
            have tk := tab_kinds w
            rw [hw] at tk
            have ha : ∀ a ∈ args, Dx N k a := fun a ha => hx a (List.mem_cons_of_mem _ ha)
            have c1 : mTst (mBin dEq (mVar 3) (mC (.str "has"))) [some (.tuple (g.map Tab.enc)), some (.tuple (cols.map .str)), some (.tuple (.str w :: args)), some (.str w), none, none] = some (decide (w = "has")) := ev_tst (ev_bin rfl rfl (dEq_str sw (by decide +kernel)))
            -- the loop over the parts
            have loop := loop_all (bind := gT 2 (gsC (gB 4) (gsC (gB 5) gsN))) (body := lb1_is_part) (fun e => ∃ z4 z5, e = [some (.tuple (g.map Tab.enc)), some (.tuple (cols.map .str)), some (.tuple (.str w :: args)), some (.str w), z4, z5]) (r := .bool false) (ds := zipD (ks.map .str) args) (bs := List.zipWith (okKind w cols) ks args) (env := [some (.tuple (g.map Tab.enc)), some (.tuple (cols.map .str)), some (.tuple (.str w :: args)), some (.str w), none, none])
              (by rw [zipD_len, List.length_map, List.length_zipWith]) ⟨none, none, rfl⟩ fun i d b e hd hb he => by
              obtain ⟨z4, z5, rfl⟩ := he
              obtain ⟨kd, a, h1, h2, rfl⟩ := zipD_get hd
              rw [List.getElem?_map] at h1
              cases hki : ks[i]? with
              | none =>
                rw [hki] at h1
                cases h1
              | some kk =>
                rw [hki] at h1
                cases h1
                have eb : b = okKind w cols kk a := by
                  rw [List.getElem?_zipWith, hki, h2] at hb
                  exact (Option.some.inj hb).symm
                have skk := sk kk (List.mem_of_getElem? hki)
                have da := ha a (List.mem_of_getElem? h2)
                have q1 : mTst (mBin dEq (mVar 4) (mC (.str "column"))) [some (.tuple (g.map Tab.enc)), some (.tuple (cols.map .str)), some (.tuple (.str w :: args)), some (.str w), some (.str kk), some a] = some (decide (kk = "column")) := ev_tst (ev_bin rfl rfl (dEq_str skk (by decide +kernel)))
                have q2 : mTst (mBin (dIn true) (mVar 5) (mVar 1)) [some (.tuple (g.map Tab.enc)), some (.tuple (cols.map .str)), some (.tuple (.str w :: args)), some (.str w), some (.str kk), some a] = some (!colOk cols a) := ev_tst (ev_bin rfl rfl (by rw [dIn_col da (by omega) hc .tup, Bool.true_xor]))
                have q3 : mTst (mBin dEq (mVar 4) (mC (.str "value"))) [some (.tuple (g.map Tab.enc)), some (.tuple (cols.map .str)), some (.tuple (.str w :: args)), some (.str w), some (.str kk), some a] = some (decide (kk = "value")) := ev_tst (ev_bin rfl rfl (dEq_str skk (by decide +kernel)))
                refine ⟨[some (.tuple (g.map Tab.enc)), some (.tuple (cols.map .str)), some (.tuple (.str w :: args)), some (.str w), some (.str kk), some a], rfl, fun q => ⟨[some (.tuple (g.map Tab.enc)), some (.tuple (cols.map .str)), some (.tuple (.str w :: args)), some (.str w), some (.str kk), some a], ?_, _, _, rfl⟩, fun q => ?_⟩
                · rw [eb] at q
                  unfold lb1_is_part
                  unfold okKind at q
                  by_cases z : kk = "column"
                  · rw [if_pos z] at q
                    rw [decide_eq_true z] at q1
                    rw [q] at q2
                    have nv : kk ≠ "value" := fun y => absurd (z.symm.trans y) (by decide +kernel)
                    rw [decide_eq_false nv] at q3
                    exact ev_ifF (ev_andT q1 q2) rfl (ev_if1F (ev_andF q3) rfl)
                  · rw [if_neg z] at q
                    rw [decide_eq_false z] at q1
                    by_cases y : kk = "value"
                    · rw [if_pos y] at q
                      rw [decide_eq_true y] at q3
                      have gv := mv (y ▸ List.mem_of_getElem? hki)
                      have q4 : mTru (mCB fm_is_whole_within (mCons (mVar 5) (mCons (mC (.int 0)) (mCons (mUn (getTab tab_MOST_VALUES) (mVar 3)) mNil)))) [some (.tuple (g.map Tab.enc)), some (.tuple (cols.map .str)), some (.tuple (.str w :: args)), some (.str w), some (.str kk), some a] = some (within a 0 (mostV w)) := ev_tru (ev_cb (ev_cons rfl (ev_cons rfl (ev_cons (d := .int (mostV w)) (ev_un (d := .str w) rfl gv) rfl))) (is_within_eq a 0 (mostV w))) rfl
                      rw [q] at q4
                      exact ev_ifF (ev_andF q1) rfl (ev_if1F (ev_andT q3 (ev_notT q4)) rfl)
                    · rw [decide_eq_false y] at q3
                      exact ev_ifF (ev_andF q1) rfl (ev_if1F (ev_andF q3) rfl)
                · rw [eb] at q
                  unfold lb1_is_part
                  unfold okKind at q
                  by_cases z : kk = "column"
                  · rw [if_pos z] at q
                    rw [decide_eq_true z] at q1
                    rw [q] at q2
                    exact ev_ifR (ev_andT q1 q2) (ev_ret rfl)
                  · rw [if_neg z] at q
                    rw [decide_eq_false z] at q1
                    by_cases y : kk = "value"
                    · rw [if_pos y] at q
                      rw [decide_eq_true y] at q3
                      have gv := mv (y ▸ List.mem_of_getElem? hki)
                      have q4 : mTru (mCB fm_is_whole_within (mCons (mVar 5) (mCons (mC (.int 0)) (mCons (mUn (getTab tab_MOST_VALUES) (mVar 3)) mNil)))) [some (.tuple (g.map Tab.enc)), some (.tuple (cols.map .str)), some (.tuple (.str w :: args)), some (.str w), some (.str kk), some a] = some (within a 0 (mostV w)) := ev_tru (ev_cb (ev_cons rfl (ev_cons rfl (ev_cons (d := .int (mostV w)) (ev_un (d := .str w) rfl gv) rfl))) (is_within_eq a 0 (mostV w))) rfl
                      rw [q] at q4
                      exact ev_ifF (ev_andF q1) rfl (ev_if1T (ev_andT q3 (ev_notT q4)) (ev_ret rfl))
                    · rw [if_neg y] at q
                      cases q
            have src : mRng zpd (mCons (mUn (getTab tab_FORMS) (mVar 3)) (mCons (mSl (mVar 2) (mPart (mC (.int 1))) mNoPart) mNil)) [some (.tuple (g.map Tab.enc)), some (.tuple (cols.map .str)), some (.tuple (.str w :: args)), some (.str w), none, none] = some (zipD (ks.map .str) args) := by
              refine ev_rng (ev_cons (d := .tuple (ks.map .str)) (ev_un (d := .str w) rfl tk) (ev_cons (d := .tuple args) (ev_sl rfl (ev_part rfl) rfl ?_) rfl)) rfl
              show some (PyData.tuple (cutD (.str w :: args) (some ((1 : Nat) : Int)) none)) = _
              rw [cutD_drop]
              rfl
            have fin : ∀ {r : Option Fl}, mSeq (mFor (mRng zpd (mCons (mUn (getTab tab_FORMS) (mVar 3)) (mCons (mSl (mVar 2) (mPart (mC (.int 1))) mNoPart) mNil))) (gT 2 (gsC (gB 4) (gsC (gB 5) gsN))) lb1_is_part) (mRet (mC (.bool true))) [some (.tuple (g.map Tab.enc)), some (.tuple (cols.map .str)), some (.tuple (.str w :: args)), some (.str w), none, none] = some (.rt (.bool ((List.zipWith (okKind w cols) ks args).all id))) := by
              cases hb : (List.zipWith (okKind w cols) ks args).all id with
              | true =>
                obtain ⟨e', l1, z4, z5, rfl⟩ := loop.1 hb
                exact ev_for src l1 (ev_ret rfl)
              | false => exact ev_forRt src (loop.2 hb)
            rw [ep, argsOk, decide_eq_true hl, Bool.true_and]
            have w0 : mBin dIx (mVar 2) (mC (.int 0)) [some (.tuple (g.map Tab.enc)), some (.tuple (cols.map .str)), some (.tuple (.str w :: args)), none, none, none] = some (.str w) := ev_bin rfl rfl (atI_nat (j := 0) rfl)
            by_cases hh : w = "has"
            · rw [decide_eq_true hh] at c1 ⊢
              have k4 : ks = [("table" : Str), ("column" : Str), ("there" : Str), ("condition" : Str)] := by
                subst hh
                have e4 : kinds "has" = some [("table" : Str), ("column" : Str), ("there" : Str), ("condition" : Str)] := by
                  unfold kinds
                  rw [if_neg (by decide +kernel), if_neg (by decide +kernel), if_neg (by decide +kernel), if_neg (by decide +kernel), if_neg (by decide +kernel), if_neg (by decide +kernel), if_neg (by decide +kernel), if_pos rfl]
                rw [e4] at hw
                exact (Option.some.inj hw).symm
              have l4 : args.length = 4 := by
                rw [hl, k4]
                rfl
              match args, l4 with
              | [ta, aa, ba, ca], _ =>
                have nt := names_table_eq (w := w) (a := aa) (c := ca) hg (ha ta (by simp)) (ha ba (by simp)) (by omega)
                have c2 : mTru (mCB fm_names_table (mCons (mVar 0) (mCons (mVar 2) mNil))) [some (.tuple (g.map Tab.enc)), some (.tuple (cols.map .str)), some (.tuple [.str w, ta, aa, ba, ca]), some (.str w), none, none] = some (namesTab g [ta, aa, ba, ca]) := ev_tru (ev_cb (ev_cons rfl (ev_cons rfl rfl)) nt) rfl
                cases hn : namesTab g [ta, aa, ba, ca] with
                | true =>
                  rw [hn] at c2
                  exact ev_run (d := .bool ((List.zipWith (okKind w cols) ks [ta, aa, ba, ca]).all id)) (ev_ifF (ev_notT t1) rfl (ev_set w0 (ev_ifF (ev_andT c1 (ev_notT c2)) rfl (fin (r := none))))) rfl
                | false =>
                  rw [hn] at c2
                  exact ev_run (d := .bool false) (ev_ifF (ev_notT t1) rfl (ev_set w0 (ev_ifR (ev_andT c1 (ev_notT c2)) (ev_ret rfl)))) rfl
            · rw [decide_eq_false hh] at c1 ⊢
              exact ev_run (d := .bool ((List.zipWith (okKind w cols) ks args).all id)) (ev_ifF (ev_notT t1) rfl (ev_set w0 (ev_ifF (ev_andF c1) rfl (fin (r := none))))) rfl
          · refine no ?_ ?_
            · rw [ef, decide_eq_false hl]
            · rw [ep, argsOk, decide_eq_false hl]
              rfl
      | _ => exact no rfl rfl
  | _ => exact no rfl rfl
/-! ### the parts within a part -/
def isCond (p : Str × PyData) : Bool := decide (p.1 = ("condition" : Str))
def hasKids (g : List Tab) (args : List PyData) : List (List Str × PyData) := match args with
  | [t, _, _, c] => (match tabOf g t with
    | some tb => [(tb.cols.map Col.name, c)]
    | none => [])
  | _ => []
def restKids (cols : List Str) (w : Str) (args : List PyData) : List (List Str × PyData) := match kinds w with
  | some ks => ((ks.zip args).filter isCond).map fun p => (cols, p.2)
  | none => []
def kids (g : List Tab) (cols : List Str) (d : PyData) : List (List Str × PyData) := match d with
  | .tuple (.str w :: args) => if w = "has" then hasKids g args else restKids cols w args
  | _ => []
def kidD (p : List Str × PyData) : PyData := .tuple [.tuple (p.1.map .str), p.2]
def wordS (d : PyData) : Str := match d with
  | .tuple (.str w :: _) => w
  | _ => Str.empty
theorem part_shape {g : List Tab} {cols : List Str} {d : PyData} (h : partOk g cols d = true) : ∃ w args ks, d = .tuple (.str w :: args) ∧ kinds w = some ks ∧ args.length = ks.length ∧ (w = "has" → namesTab g args = true) := by
  unfold partOk at h
  split at h
  · rename_i w args
    cases hw : kinds w with
    | none =>
      rw [hw] at h
      cases h
    | some ks =>
      rw [hw] at h
      have h' : argsOk g cols w ks args = true := h
      unfold argsOk at h'
      (rw [Bool.and_eq_true, Bool.and_eq_true] at h')
      refine ⟨w, args, ks, rfl, hw, of_decide_eq_true h'.1, fun z => ?_⟩
      have := h'.2.1
      rw [decide_eq_true z] at this
      exact this
  · cases h
theorem cond_loop {env0 : En} {g : List Tab} : ∀ (ks : List Str) (args : List PyData), (∀ x ∈ ks, SeqAt.shaped (.str x) = true) → ∀ x0, lcD (gT 2 (gsC (gB 1) (gsC (gB 2) gsN))) lt1_conditions_here le1_conditions_here [x0, none, none] (zipD (ks.map .str) args) = some (((ks.zip args).filter isCond).map Prod.snd)
  | [], _, _, _ => rfl
  | _ :: _, [], _, _ => rfl
  | k :: ks, a :: args, h, x0 => by
    have ih := cond_loop (env0 := env0) (g := g) ks args (fun x hx => h x (List.mem_cons_of_mem _ hx)) x0
    have t : lt1_conditions_here [x0, some (.str k), some a] = some (decide (k = "condition")) := ev_tst (ev_bin rfl rfl (dEq_str (h k List.mem_cons_self) (by decide +kernel)))
    show ((lt1_conditions_here [x0, some (.str k), some a]).bind fun b => if b = true then (le1_conditions_here [x0, some (.str k), some a]).bind fun x => (lcD (gT 2 (gsC (gB 1) (gsC (gB 2) gsN))) lt1_conditions_here le1_conditions_here [x0, none, none] (zipD (ks.map .str) args)).bind fun r => some (x :: r) else lcD (gT 2 (gsC (gB 1) (gsC (gB 2) gsN))) lt1_conditions_here le1_conditions_here [x0, none, none] (zipD (ks.map .str) args)) = _
    rw [t, ih, Option.bind_some, List.zip_cons_cons, List.filter_cons]
    by_cases z : k = "condition"
    · have e : isCond (k, a) = true := decide_eq_true z
      rw [decide_eq_true z, if_pos rfl, e, if_pos rfl]
      rfl
    · have e : isCond (k, a) = false := decide_eq_false z
      rw [decide_eq_false z, if_neg Bool.false_ne_true, e, if_neg Bool.false_ne_true]
theorem parts_within_eq {N k : Nat} {g : List Tab} {cols : List Str} {d : PyData} (hg : ∀ t ∈ g, t.Gd) (hd : Dx N k d) (hk : k ≤ 64) (h : partOk g cols d = true) : fm_parts_within [.tuple (g.map Tab.enc), .tuple (cols.map .str), d] = some (.list ((kids g cols d).map kidD)) ∧ (kids g cols d).length ≤ 4 := by
  obtain ⟨w, args, ks, rfl, hw, hl, hn⟩ := part_shape h
  obtain ⟨sw, sk, _⟩ := kinds_word hw
  have few := kinds_few hw
  have w0 : ∀ x3 : Option PyData, mBin dIx (mVar 2) (mC (.int 0)) [some (.tuple (g.map Tab.enc)), some (.tuple (cols.map .str)), some (.tuple (.str w :: args)), x3] = some (.str w) := fun _ => ev_bin rfl rfl (atI_nat (j := 0) rfl)
  have t1 : mTst (mBin dEq (mBin dIx (mVar 2) (mC (.int 0))) (mC (.str "has"))) [some (.tuple (g.map Tab.enc)), some (.tuple (cols.map .str)), some (.tuple (.str w :: args)), none] = some (decide (w = "has")) := ev_tst (ev_bin (w0 none) rfl (dEq_str sw (by decide +kernel)))
  unfold fm_parts_within mb_parts_within
  by_cases z : w = "has"
  · rw [decide_eq_true z] at t1
    have nt := hn z
    match args, nt with
    | ta :: aa :: ba :: r, nt =>
      cases hd with
      | @tuple k xs l hx =>
        have dt : Dx N k ta := hx ta (by simp)
        have ft := find_table_eq dt (by omega) hg
        have nt2 : (match tabOf g ta with | some tb => colOk (tb.cols.map Col.name) ba | none => false) = true := nt
        cases hf : tabOf g ta with
        | none =>
          rw [hf] at nt2
          cases nt2
        | some tb =>
          have gd := hg tb (tabOf_mem hf)
          rw [hf] at ft
          have k4 : ks = [("table" : Str), ("column" : Str), ("there" : Str), ("condition" : Str)] := by
            subst z
            have e4 : kinds "has" = some [("table" : Str), ("column" : Str), ("there" : Str), ("condition" : Str)] := by
              unfold kinds
              rw [if_neg (by decide +kernel), if_neg (by decide +kernel), if_neg (by decide +kernel), if_neg (by decide +kernel), if_neg (by decide +kernel), if_neg (by decide +kernel), if_neg (by decide +kernel), if_pos rfl]
            rw [e4] at hw
            exact (Option.some.inj hw).symm
          have l4 : (ta :: aa :: ba :: r).length = 4 := by
            rw [hl, k4]
            rfl
          match r, l4 with
          | [ca], _ =>
            have ek : kids g cols (.tuple [.str w, ta, aa, ba, ca]) = [(tb.cols.map Col.name, ca)] := by
              rw [kids, if_pos z, hasKids, hf]
            rw [ek]
            refine ⟨?_, by show 1 ≤ 4; decide⟩
            refine ev_run (d := .list [kidD (tb.cols.map Col.name, ca)]) (ev_ifR t1 (ev_ret (lst1 (tup2 (ev_cb (ev_cons (ev_cb (ev_cons rfl (ev_cons (d := ta) rfl rfl)) ft) rfl) (column_names_eq gd)) (d := .tuple ((tb.cols.map Col.name).map .str)) (e := ca) rfl)))) rfl
  · rw [decide_eq_false z] at t1
    have ek : kids g cols (.tuple (.str w :: args)) = ((ks.zip args).filter isCond).map fun p => (cols, p.2) := by
      rw [kids, if_neg z, restKids, hw]
    have tk := tab_kinds w
    rw [hw] at tk
    have flen : ((ks.zip args).filter isCond).length ≤ 4 := by
      refine Nat.le_trans (List.length_filter_le _ _) ?_
      rw [List.length_zip]
      omega
    have ch : fm_conditions_here [.tuple (.str w :: args)] = some (.list (((ks.zip args).filter isCond).map Prod.snd)) := by
      unfold fm_conditions_here mb_conditions_here
      have v0 : mBin dIx (mVar 0) (mC (.int 0)) [some (.tuple (.str w :: args)), none, none] = some (.str w) := ev_bin rfl rfl (atI_nat (j := 0) rfl)
      have v1 : mTst (mBin dEq (mBin dIx (mVar 0) (mC (.int 0))) (mC (.str "has"))) [some (.tuple (.str w :: args)), none, none] = some false := by
        rw [← decide_eq_false z]
        exact ev_tst (ev_bin v0 rfl (dEq_str sw (by decide +kernel)))
      refine ev_run (d := .list (((ks.zip args).filter isCond).map Prod.snd)) (ev_ifF v1 rfl (ev_ret (ev_lc (ds := zipD (ks.map .str) args) (ev_rng (ev_cons (d := .tuple (ks.map .str)) (ev_un v0 tk) (ev_cons (d := .tuple args) (ev_sl rfl (ev_part rfl) rfl ?_) rfl)) rfl) (cond_loop (env0 := []) (g := g) ks args sk _) (line_big (by rw [List.length_map]; omega))))) rfl
      show some (PyData.tuple (cutD (.str w :: args) (some ((1 : Nat) : Int)) none)) = _
      rw [cutD_drop]
      rfl
    rw [ek]
    refine ⟨?_, by rw [List.length_map]; exact flen⟩
    rw [List.map_map]
    have lc : lcD (gB 3) mYes le1_parts_within [some (.tuple (g.map Tab.enc)), some (.tuple (cols.map .str)), some (.tuple (.str w :: args)), none] (((ks.zip args).filter isCond).map Prod.snd) = some (((ks.zip args).filter isCond).map (kidD ∘ fun (p : Str × PyData) => (cols, p.2))) := by
      refine (lc_map (f := fun d => kidD (cols, d)) fun d hd => ⟨_, gB_ap _ _ _, rfl, ?_⟩).trans ?_
      · exact tup2 (d := .tuple (cols.map .str)) (e := d) rfl rfl
      · rw [List.map_map]
        rfl
    exact ev_run (d := .list (((ks.zip args).filter isCond).map (kidD ∘ fun (p : Str × PyData) => (cols, p.2)))) (ev_ifF t1 rfl (ev_ret (ev_lc (ev_it (ev_cb (ev_cons rfl rfl) ch) rfl) lc (line_big (by rw [List.length_map]; omega))))) rfl
/-! ### all parts: the tree, and the waiting ones -/
abbrev Nd := Str × Bool
abbrev Itm := List Str × PyData × Bool
def nodesL (f : List Str → PyData → Option (List Nd)) : List (List Str × PyData) → Option (List Nd)
  | [] => some []
  | p :: r => (nodesL f r).bind fun lr => (f p.1 p.2).bind fun lx => some (lr ++ lx)
def nodes (g : List Tab) : Nat → List Str → PyData → Bool → Option (List Nd)
  | 0, _, _, _ => none
  | n + 1, cols, d, ins => if partOk g cols d = true then (nodesL (fun c x => nodes g n c x (ins || decide (wordS d = "has"))) (kids g cols d)).map fun l => (wordS d, ins) :: l else none
def runW (g : List Tab) : Nat → List Itm → List Nd → Option (Option (List Nd))
  | 0, _, _ => none
  | n + 1, st, fs => match st.getLast? with
    | none => some (some fs)
    | some it => if fs.length = 8 then some none else if partOk g it.1 it.2.1 = true then runW g n (st.dropLast ++ (kids g it.1 it.2.1).map fun p => (p.1, p.2, it.2.2 || decide (wordS it.2.1 = "has"))) (fs ++ [(wordS it.2.1, it.2.2)]) else some none
def outW (g : List Tab) (m : Nat) (st : List Itm) (fs : List Nd) (o : Option (List Nd)) : Option (Option (List Nd)) := match o with
  | some l => if fs.length + l.length ≤ 8 then runW g (m - l.length) st (fs ++ l) else some none
  | none => some none
theorem kids_dx {N k : Nat} {g : List Tab} {cols : List Str} {d : PyData} (hd : Dx N (k + 1) d) : ∀ p ∈ kids g cols d, Dx N k p.2 := fun p hp => by
  unfold kids at hp
  split at hp
  · rename_i w args
    cases hd with
    | tuple l hx =>
      split at hp
      · unfold hasKids at hp
        split at hp
        · split at hp
          · (rw [List.mem_singleton.mp hp])
            exact hx _ (by simp)
          · cases hp
        · cases hp
      · unfold restKids at hp
        split at hp
        · obtain ⟨q, hq, rfl⟩ := List.mem_map.mp hp
          have := (List.mem_filter.mp hq).1
          exact hx _ (List.mem_cons_of_mem _ (List.of_mem_zip this).2)
        · cases hp
  · cases hp
theorem part_deep {N k : Nat} {g : List Tab} {cols : List Str} {d : PyData} (hd : Dx N k d) (h : partOk g cols d = true) : ∃ j, k = j + 1 := by
  obtain ⟨w, args, ks, rfl, _⟩ := part_shape h
  cases hd with
  | tuple l hx => exact ⟨_, rfl⟩
theorem run_list {N k n : Nat} {g : List Tab} {b : Bool} (one : ∀ (c : List Str) (x : PyData), Dx N k x → ∀ (m : Nat) (st : List Itm) (fs : List Nd), fs.length ≤ 8 → 9 ≤ m + fs.length → runW g m (st ++ [(c, x, b)]) fs = outW g m st fs (nodes g n c x b)) :
    ∀ (ps : List (List Str × PyData)), (∀ p ∈ ps, Dx N k p.2) → ∀ (m : Nat) (st : List Itm) (fs : List Nd), fs.length ≤ 8 → 9 ≤ m + fs.length → runW g m (st ++ ps.map fun p => (p.1, p.2, b)) fs = outW g m st fs (nodesL (fun c x => nodes g n c x b) ps)
  | [], _, m, st, fs, h8, hm => by
    rw [List.map_nil, List.append_nil]
    show _ = if fs.length + ([] : List Nd).length ≤ 8 then runW g (m - ([] : List Nd).length) st (fs ++ []) else some none
    rw [List.length_nil, Nat.add_zero, if_pos h8, List.append_nil]
    rfl
  | p :: r, hp, m, st, fs, h8, hm => by
    have ih := run_list one r (fun q hq => hp q (List.mem_cons_of_mem _ hq)) m (st ++ [(p.1, p.2, b)]) fs h8 hm
    rw [List.map_cons, show st ++ ((p.1, p.2, b) :: r.map fun p => (p.1, p.2, b)) = (st ++ [(p.1, p.2, b)]) ++ r.map (fun p => (p.1, p.2, b)) by rw [List.append_assoc]; rfl, ih]
    show outW g m (st ++ [(p.1, p.2, b)]) fs (nodesL (fun c x => nodes g n c x b) r) = outW g m st fs ((nodesL (fun c x => nodes g n c x b) r).bind fun lr => (nodes g n p.1 p.2 b).bind fun lx => some (lr ++ lx))
    cases hr : nodesL (fun c x => nodes g n c x b) r with
    | none => rfl
    | some lr =>
      rw [Option.bind_some]
      show (if fs.length + lr.length ≤ 8 then runW g (m - lr.length) (st ++ [(p.1, p.2, b)]) (fs ++ lr) else some none) = _
      by_cases z : fs.length + lr.length ≤ 8
      · rw [if_pos z, one p.1 p.2 (hp p List.mem_cons_self) (m - lr.length) st (fs ++ lr) (by rw [List.length_append]; exact z) (by rw [List.length_append]; omega)]
        cases hx : nodes g n p.1 p.2 b with
        | none => rfl
        | some lx =>
          rw [Option.bind_some]
          show (if (fs ++ lr).length + lx.length ≤ 8 then runW g (m - lr.length - lx.length) st ((fs ++ lr) ++ lx) else some none) = if fs.length + (lr ++ lx).length ≤ 8 then runW g (m - (lr ++ lx).length) st (fs ++ (lr ++ lx)) else some none
          rw [List.length_append, List.length_append, Nat.add_assoc, Nat.sub_sub, List.append_assoc]
      · rw [if_neg z]
        cases hx : nodes g n p.1 p.2 b with
        | none => rfl
        | some lx =>
          rw [Option.bind_some]
          show some none = if fs.length + (lr ++ lx).length ≤ 8 then _ else some none
          rw [if_neg (by rw [List.length_append]; omega)]
theorem run_one {N : Nat} {g : List Tab} : ∀ (n k : Nat), k < n → ∀ (b : Bool) (c : List Str) (x : PyData), Dx N k x → ∀ (m : Nat) (st : List Itm) (fs : List Nd), fs.length ≤ 8 → 9 ≤ m + fs.length → runW g m (st ++ [(c, x, b)]) fs = outW g m st fs (nodes g n c x b)
  | 0, _, h, _, _, _, _, _, _, _, _, _ => absurd h (by omega)
  | n + 1, k, hk, b, c, x, hx, m, st, fs, h8, hm => by
    obtain ⟨m1, rfl⟩ := Nat.exists_eq_succ_of_ne_zero (show m ≠ 0 by omega)
    have gl : (st ++ [(c, x, b)]).getLast? = some (c, x, b) := List.getLast?_concat
    have dl : (st ++ [(c, x, b)]).dropLast = st := List.dropLast_concat
    have un : runW g (m1 + 1) (st ++ [(c, x, b)]) fs = if fs.length = 8 then some none else if partOk g c x = true then runW g m1 (st ++ (kids g c x).map fun p => (p.1, p.2, b || decide (wordS x = "has"))) (fs ++ [(wordS x, b)]) else some none := by
      show (match (st ++ [(c, x, b)]).getLast? with | none => _ | some it => _) = _
      rw [gl]
      show (if fs.length = 8 then some none else if partOk g c x = true then runW g m1 ((st ++ [(c, x, b)]).dropLast ++ _) _ else some none) = _
      rw [dl]
    rw [Nat.succ_eq_add_one, un]
    show _ = outW g (m1 + 1) st fs (if partOk g c x = true then (nodesL (fun c' x' => nodes g n c' x' (b || decide (wordS x = "has"))) (kids g c x)).map fun l => (wordS x, b) :: l else none)
    by_cases z : fs.length = 8
    · rw [if_pos z]
      by_cases y : partOk g c x = true
      · rw [if_pos y]
        cases nodesL (fun c' x' => nodes g n c' x' (b || decide (wordS x = "has"))) (kids g c x) with
        | none => rfl
        | some l =>
          show _ = if fs.length + ((wordS x, b) :: l).length ≤ 8 then _ else some none
          rw [if_neg (by rw [List.length_cons]; omega)]
      · rw [if_neg y]
        rfl
    · rw [if_neg z]
      by_cases y : partOk g c x = true
      · rw [if_pos y, if_pos y]
        obtain ⟨j, rfl⟩ := part_deep hx y
        have lst := run_list (g := g) (N := N) (k := j) (n := n) (b := b || decide (wordS x = "has")) (fun c' x' hx' m' st' fs' h8' hm' => run_one n j (by omega) (b || decide (wordS x = "has")) c' x' hx' m' st' fs' h8' hm') (kids g c x) (kids_dx hx) m1 st (fs ++ [(wordS x, b)]) (by rw [List.length_append, List.length_singleton]; omega) (by rw [List.length_append, List.length_singleton]; omega)
        rw [lst]
        cases nodesL (fun c' x' => nodes g n c' x' (b || decide (wordS x = "has"))) (kids g c x) with
        | none => rfl
        | some l =>
          show (if (fs ++ [(wordS x, b)]).length + l.length ≤ 8 then runW g (m1 - l.length) st ((fs ++ [(wordS x, b)]) ++ l) else some none) = if fs.length + ((wordS x, b) :: l).length ≤ 8 then runW g (m1 + 1 - ((wordS x, b) :: l).length) st (fs ++ (wordS x, b) :: l) else some none
          rw [List.length_append, List.length_singleton, List.length_cons, List.append_assoc, show fs.length + 1 + l.length = fs.length + (l.length + 1) by omega, show m1 + 1 - (l.length + 1) = m1 - l.length by omega]
          rfl
      · rw [if_neg y, if_neg y]
        rfl
/-! the mirror goes just so -/
def nodeD (p : Nd) : PyData := .tuple [.str p.1, .bool p.2]
def itemD (p : Itm) : PyData := .tuple [.tuple (p.1.map .str), p.2.1, .bool p.2.2]
theorem ev_pop {i : Nat} {bind : PyData → En → Option En} {n : En → Option Fl} {env env' : En} {ds : List PyData} {d : PyData} {r : Option Fl} (h : mVar i env = some (.list (ds ++ [d]))) (hb : bind d (env.set i (some (.list ds))) = some env') (h2 : n env' = r) : mSeq (mPop i bind) n env = r := by
  unfold mSeq mPop
  rw [h, Option.bind_some]
  show (((((ds ++ [d])[(ds ++ [d]).length - 1]?).bind fun x => (bind x (env.set i (some (.list (ds ++ [d]).dropLast)))).bind fun e => some (Fl.nx e)) : Option Fl).bind _) = _
  have e1 : (ds ++ [d])[(ds ++ [d]).length - 1]? = some d := by
    rw [List.length_append, List.length_singleton, Nat.add_sub_cancel, List.getElem?_append_right (Nat.le_refl _), Nat.sub_self]
    rfl
  rw [e1, List.dropLast_concat, Option.bind_some, hb]
  exact h2
theorem ev_ext {i : Nat} {m : En → Option PyData} {env : En} {ds es : List PyData} (h1 : mVar i env = some (.list ds)) (h2 : m env = some (.list es)) (h3 : ds.length + es.length ≤ 100000) : mExt i m env = some (.nx (env.set i (some (.list (ds ++ es))))) := by
  unfold mExt
  rw [h1, Option.bind_some, h2, Option.bind_some]
  exact if_pos (line_big h3)
def ItOk (N k : Nat) (p : Itm) : Prop := (∀ x ∈ p.1, SeqAt.shaped (.str x) = true) ∧ Dx N k p.2.1
theorem kids_ok {N k : Nat} {g : List Tab} {cols : List Str} {d : PyData} (hg : ∀ t ∈ g, t.Gd) (hc : ∀ x ∈ cols, SeqAt.shaped (.str x) = true) (hd : Dx N (k + 1) d) {b : Bool} : ∀ p ∈ (kids g cols d).map (fun p => ((p.1, p.2, b) : Itm)), ItOk N k p := fun p hp => by
  (obtain ⟨q, hq, rfl⟩ := List.mem_map.mp hp)
  refine ⟨fun x hx => ?_, kids_dx hd q hq⟩
  unfold kids at hq
  split at hq
  · split at hq
    · unfold hasKids at hq
      split at hq
      · split at hq
        · rename_i t tb ht
          rw [List.mem_singleton.mp hq] at hx
          exact Gd_names (hg tb (tabOf_mem ht)) x hx
        · cases hq
      · cases hq
    · unfold restKids at hq
      split at hq
      · obtain ⟨r, _, rfl⟩ := List.mem_map.mp hq
        exact hc x hx
      · cases hq
  · cases hq
theorem body_eq {N k : Nat} {g : List Tab} {c : List Str} {x : PyData} {b : Bool} {st : List Itm} {fs : List Nd} (hg : ∀ t ∈ g, t.Gd) (hi : ItOk N k (c, x, b)) (hk : k ≤ 64) (hs : st.length ≤ 1000) (hf : fs.length ≤ 1000) (x1 x2 z6 z7 z8 z9 : Option PyData) :
    ((fs.length = 8 ∨ partOk g c x = false) → lb1_all_parts [some (.tuple (g.map Tab.enc)), x1, x2, some (.int 8), some (.list (fs.map nodeD)), some (.list ((st ++ [(c, x, b)]).map itemD)), z6, z7, z8, z9, none, none] = some (.rt .none)) ∧
    (fs.length ≠ 8 → partOk g c x = true → ∃ y6 y7 y8 y9, lb1_all_parts [some (.tuple (g.map Tab.enc)), x1, x2, some (.int 8), some (.list (fs.map nodeD)), some (.list ((st ++ [(c, x, b)]).map itemD)), z6, z7, z8, z9, none, none] = some (.nx [some (.tuple (g.map Tab.enc)), x1, x2, some (.int 8), some (.list ((fs ++ [(wordS x, b)]).map nodeD)), some (.list ((st ++ (kids g c x).map fun p => (p.1, p.2, b || decide (wordS x = "has"))).map itemD)), y6, y7, y8, y9, none, none])) := by
  have ip := is_part_eq hg hi.1 hi.2 hk
  have popped : ∀ {n : En → Option Fl} {r : Option Fl}, n [some (.tuple (g.map Tab.enc)), x1, x2, some (.int 8), some (.list (fs.map nodeD)), some (.list (st.map itemD)), z6, some (.tuple (c.map .str)), some x, some (.bool b), none, none] = r → mSeq (mPop 5 (gT 3 (gsC (gB 7) (gsC (gB 8) (gsC (gB 9) gsN))))) n [some (.tuple (g.map Tab.enc)), x1, x2, some (.int 8), some (.list (fs.map nodeD)), some (.list ((st ++ [(c, x, b)]).map itemD)), z6, z7, z8, z9, none, none] = r := fun h => by
    refine ev_pop (ds := st.map itemD) (d := itemD (c, x, b)) ?_ rfl h
    rw [List.map_append]
    rfl
  have len : mTst (mBin dEq (mCB bLen (mCons (mVar 4) mNil)) (mVar 3)) [some (.tuple (g.map Tab.enc)), x1, x2, some (.int 8), some (.list (fs.map nodeD)), some (.list (st.map itemD)), z6, some (.tuple (c.map .str)), some x, some (.bool b), none, none] = some (decide (fs.length = 8)) := by
    refine ev_tst (ev_bin (a := .int ((fs.map nodeD).length : Nat)) (ev_cb (ev_cons rfl rfl) rfl) rfl ?_)
    rw [dEq_int, List.length_map]
    refine congrArg (fun told => some (PyData.bool told)) ?_
    by_cases z : fs.length = 8
    · rw [z]
      rfl
    · rw [decide_eq_false z]
      simp
      omega
  have prt : mTru (mCB fm_is_part (mCons (mVar 0) (mCons (mVar 7) (mCons (mVar 8) mNil)))) [some (.tuple (g.map Tab.enc)), x1, x2, some (.int 8), some (.list (fs.map nodeD)), some (.list (st.map itemD)), z6, some (.tuple (c.map .str)), some x, some (.bool b), none, none] = some (partOk g c x) := ev_tru (ev_cb (ev_cons rfl (ev_cons rfl (ev_cons rfl rfl))) ip) rfl
  refine ⟨fun h => ?_, fun h1 h2 => ?_⟩
  · unfold lb1_all_parts
    refine popped (ev_ifR (d := .none) ?_ (ev_ret rfl))
    by_cases z : fs.length = 8
    · rw [decide_eq_true z] at len
      exact ev_orT len
    · rw [decide_eq_false z] at len
      rw [h.resolve_left z] at prt
      exact ev_orF len (ev_notT prt)
  · rw [decide_eq_false h1] at len
    rw [h2] at prt
    obtain ⟨w, args, ks, rfl, hw, hl, hn⟩ := part_shape h2
    obtain ⟨sw, _, _⟩ := kinds_word hw
    have pw := parts_within_eq hg hi.2 hk h2
    have kl : (kids g c (.tuple (.str w :: args))).length ≤ 4 := pw.2
    refine ⟨some (.bool (b || decide (w = "has"))), some (.tuple (c.map .str)), some (.tuple (.str w :: args)), some (.bool b), ?_⟩
    unfold lb1_all_parts
    have w0 : ∀ y4 y6 : Option PyData, mBin dIx (mVar 8) (mC (.int 0)) [some (.tuple (g.map Tab.enc)), x1, x2, some (.int 8), y4, some (.list (st.map itemD)), y6, some (.tuple (c.map .str)), some (.tuple (.str w :: args)), some (.bool b), none, none] = some (.str w) := fun _ _ => ev_bin rfl rfl (atI_nat (j := 0) rfl)
    refine popped ?_
    refine ev_ifF (ev_orF len (ev_notT prt)) rfl ?_
    refine ev_seq (ev_app (ds := fs.map nodeD) (d := nodeD (w, b)) rfl (tup2 (w0 _ _) rfl) (line_lt (by rw [List.length_map]; omega))) ?_
    refine ev_set (d := .bool (b || decide (w = "has"))) (ev_orV rfl (ev_bin (w0 _ _) rfl (dEq_str sw (by decide +kernel)))) ?_
    have lc : mLc [10, 11] (mIt (mCB fm_parts_within (mCons (mVar 0) (mCons (mVar 7) (mCons (mVar 8) mNil))))) (gT 2 (gsC (gB 10) (gsC (gB 11) gsN))) mYes le1_all_parts [some (.tuple (g.map Tab.enc)), x1, x2, some (.int 8), some (.list (fs.map nodeD ++ [nodeD (w, b)])), some (.list (st.map itemD)), some (.bool (b || decide (w = "has"))), some (.tuple (c.map .str)), some (.tuple (.str w :: args)), some (.bool b), none, none] = some (.list (((kids g c (.tuple (.str w :: args))).map fun p => ((p.1, p.2, b || decide (w = "has")) : Itm)).map itemD)) := by
      have src : mIt (mCB fm_parts_within (mCons (mVar 0) (mCons (mVar 7) (mCons (mVar 8) mNil)))) [some (.tuple (g.map Tab.enc)), x1, x2, some (.int 8), some (.list (fs.map nodeD ++ [nodeD (w, b)])), some (.list (st.map itemD)), some (.bool (b || decide (w = "has"))), some (.tuple (c.map .str)), some (.tuple (.str w :: args)), some (.bool b), none, none] = some ((kids g c (.tuple (.str w :: args))).map kidD) := ev_it (ev_cb (ev_cons rfl (ev_cons rfl (ev_cons rfl rfl))) pw.1) rfl
      refine ev_lc src (es := ((kids g c (.tuple (.str w :: args))).map fun p => ((p.1, p.2, b || decide (w = "has")) : Itm)).map itemD) ?_ (line_big (by rw [List.length_map, List.length_map]; omega))
      generalize kids g c (.tuple (.str w :: args)) = ps
      clear pw kl
      induction ps with
      | nil => rfl
      | cons p ps ih =>
        have e := tup2 (env := [some (.tuple (g.map Tab.enc)), x1, x2, some (.int 8), some (.list (fs.map nodeD ++ [nodeD (w, b)])), some (.list (st.map itemD)), some (.bool (b || decide (w = "has"))), some (.tuple (c.map .str)), some (.tuple (.str w :: args)), some (.bool b), some (.tuple (p.1.map .str)), some p.2]) (m := mVar 10) (n := mVar 11) rfl rfl
        have me : le1_all_parts [some (.tuple (g.map Tab.enc)), x1, x2, some (.int 8), some (.list (fs.map nodeD ++ [nodeD (w, b)])), some (.list (st.map itemD)), some (.bool (b || decide (w = "has"))), some (.tuple (c.map .str)), some (.tuple (.str w :: args)), some (.bool b), some (.tuple (p.1.map .str)), some p.2] = some (itemD (p.1, p.2, b || decide (w = "has"))) := ev_tup (ev_cons rfl (ev_cons rfl (ev_cons rfl rfl))) (line_big (show 3 ≤ 100000 by decide))
        show ((le1_all_parts [some (.tuple (g.map Tab.enc)), x1, x2, some (.int 8), some (.list (fs.map nodeD ++ [nodeD (w, b)])), some (.list (st.map itemD)), some (.bool (b || decide (w = "has"))), some (.tuple (c.map .str)), some (.tuple (.str w :: args)), some (.bool b), some (.tuple (p.1.map .str)), some p.2]).bind fun x => _) = _
        rw [me, Option.bind_some]
        show ((lcD (gT 2 (gsC (gB 10) (gsC (gB 11) gsN))) mYes le1_all_parts [some (.tuple (g.map Tab.enc)), x1, x2, some (.int 8), some (.list (fs.map nodeD ++ [nodeD (w, b)])), some (.list (st.map itemD)), some (.bool (b || decide (w = "has"))), some (.tuple (c.map .str)), some (.tuple (.str w :: args)), some (.bool b), none, none] (ps.map kidD)).bind _) = _
        have ih' : lcD (gT 2 (gsC (gB 10) (gsC (gB 11) gsN))) mYes le1_all_parts [some (.tuple (g.map Tab.enc)), x1, x2, some (.int 8), some (.list (fs.map nodeD ++ [nodeD (w, b)])), some (.list (st.map itemD)), some (.bool (b || decide (w = "has"))), some (.tuple (c.map .str)), some (.tuple (.str w :: args)), some (.bool b), none, none] (ps.map kidD) = _ := ih
        rw [ih']
        rfl
    refine (ev_ext (ds := st.map itemD) rfl lc (by rw [List.length_map, List.length_map, List.length_map]; omega)).trans ?_
    rw [List.map_append, List.map_append]
    rfl
theorem while_eq {N k : Nat} {g : List Tab} (hg : ∀ t ∈ g, t.Gd) (hk : k ≤ 64) (x1 x2 : Option PyData) : ∀ (n : Nat) (st : List Itm) (fs : List Nd) (z6 z7 z8 z9 : Option PyData), (∀ p ∈ st, ItOk N k p) → fs.length ≤ 8 → st.length + 4 * (8 - fs.length) ≤ 100 →
    (∀ o, runW g n st fs = some o → match o with
      | none => whileD lt1_all_parts lb1_all_parts n [some (.tuple (g.map Tab.enc)), x1, x2, some (.int 8), some (.list (fs.map nodeD)), some (.list (st.map itemD)), z6, z7, z8, z9, none, none] = some (.rt .none)
      | some l => ∃ y5 y6 y7 y8 y9, whileD lt1_all_parts lb1_all_parts n [some (.tuple (g.map Tab.enc)), x1, x2, some (.int 8), some (.list (fs.map nodeD)), some (.list (st.map itemD)), z6, z7, z8, z9, none, none] = some (.nx [some (.tuple (g.map Tab.enc)), x1, x2, some (.int 8), some (.list (l.map nodeD)), y5, y6, y7, y8, y9, none, none]))
  | 0, _, _, _, _, _, _, _, _, _, o, h => nomatch h
  | n + 1, st, fs, z6, z7, z8, z9, hi, h8, hs, o, h => by
    rcases List.eq_nil_or_concat st with rfl | ⟨s0, it, rfl⟩
    · have e : o = some fs := (Option.some.inj h).symm
      subst e
      exact ⟨_, z6, z7, z8, z9, rfl⟩
    · obtain ⟨c, x, b⟩ := it
      rw [List.concat_eq_append] at *
      have ok := hi (c, x, b) (List.mem_append_right _ List.mem_cons_self)
      have l0 : (s0 ++ [(c, x, b)]).length = s0.length + 1 := by rw [List.length_append]; rfl
      have be := body_eq hg ok hk (st := s0) (fs := fs) (by omega) (by omega) x1 x2 z6 z7 z8 z9
      have tt : lt1_all_parts [some (.tuple (g.map Tab.enc)), x1, x2, some (.int 8), some (.list (fs.map nodeD)), some (.list ((s0 ++ [(c, x, b)]).map itemD)), z6, z7, z8, z9, none, none] = some true := by
        refine ev_tru (d := .list ((s0 ++ [(c, x, b)]).map itemD)) rfl ?_
        rw [List.map_append]
        show some (!(s0.map itemD ++ [itemD (c, x, b)]).isEmpty) = _
        cases s0.map itemD <;> rfl
      have wd : ∀ {f : Fl}, lb1_all_parts [some (.tuple (g.map Tab.enc)), x1, x2, some (.int 8), some (.list (fs.map nodeD)), some (.list ((s0 ++ [(c, x, b)]).map itemD)), z6, z7, z8, z9, none, none] = some f → whileD lt1_all_parts lb1_all_parts (n + 1) [some (.tuple (g.map Tab.enc)), x1, x2, some (.int 8), some (.list (fs.map nodeD)), some (.list ((s0 ++ [(c, x, b)]).map itemD)), z6, z7, z8, z9, none, none] = (match f with
          | .nx e => whileD lt1_all_parts lb1_all_parts n e
          | .ct e => whileD lt1_all_parts lb1_all_parts n e
          | .bk e => some (.nx e)
          | .rt r => some (.rt r)) := fun {f} hf => by
        show ((lt1_all_parts _).bind _) = _
        first
          | (rw [tt, Option.bind_some, if_pos rfl, hf, Option.bind_some]; done)
          | (rw [tt, Option.bind_some, if_pos rfl, hf, Option.bind_some]; cases f <;> rfl)
      have un : runW g (n + 1) (s0 ++ [(c, x, b)]) fs = if fs.length = 8 then some none else if partOk g c x = true then runW g n (s0 ++ (kids g c x).map fun p => (p.1, p.2, b || decide (wordS x = "has"))) (fs ++ [(wordS x, b)]) else some none := by
        show (match (s0 ++ [(c, x, b)]).getLast? with | none => _ | some it => _) = _
        rw [show (s0 ++ [(c, x, b)]).getLast? = some (c, x, b) from List.getLast?_concat]
        show (if fs.length = 8 then some none else if partOk g c x = true then runW g n ((s0 ++ [(c, x, b)]).dropLast ++ _) _ else some none) = _
        rw [show (s0 ++ [(c, x, b)]).dropLast = s0 from List.dropLast_concat]
      rw [un] at h
      by_cases z : fs.length = 8
      · rw [if_pos z] at h
        cases h
        exact wd (be.1 (.inl z))
      · rw [if_neg z] at h
        by_cases y : partOk g c x = true
        · rw [if_pos y] at h
          obtain ⟨y6, y7, y8, y9, hb⟩ := be.2 z y
          obtain ⟨j, hj⟩ := part_deep ok.2 y
          have kok : ∀ p ∈ s0 ++ (kids g c x).map (fun p => ((p.1, p.2, b || decide (wordS x = "has")) : Itm)), ItOk N k p := fun p hp => by
            (rcases List.mem_append.mp hp with q | q)
            · exact hi p (List.mem_append_left _ q)
            · subst hj
              have := kids_ok hg ok.1 ok.2 p q
              exact ⟨this.1, this.2.mono (Nat.le_refl _) (by omega)⟩
          have kl : (kids g c x).length ≤ 4 := (parts_within_eq hg ok.2 hk y).2
          have ih := while_eq hg hk x1 x2 n (s0 ++ (kids g c x).map fun p => (p.1, p.2, b || decide (wordS x = "has"))) (fs ++ [(wordS x, b)]) y6 y7 y8 y9 kok (by rw [List.length_append]; show fs.length + 1 ≤ 8; omega) (by rw [List.length_append, List.length_append, List.length_map]; show s0.length + (kids g c x).length + 4 * (8 - (fs.length + 1)) ≤ 100; omega) o h
          have wd' := wd hb
          cases o with
          | none => exact wd'.trans ih
          | some l =>
            obtain ⟨v5, v6, v7, v8, v9, hv⟩ := ih
            exact ⟨v5, v6, v7, v8, v9, wd'.trans hv⟩
        · rw [if_neg y] at h
          cases h
          exact wd (be.1 (.inr (Bool.eq_false_iff.mpr y)))
/-! ### is it a condition: the program -/
theorem ev_whR {mt : En → Option Bool} {mb n : En → Option Fl} {j : Nat} {env : En} {d : PyData} (h : whileD mt mb j env = some (.rt d)) : mSeq (whileD mt mb j) n env = some (.rt d) := by
  unfold mSeq
  rw [h]
  rfl
def foundD (o : Option (List Nd)) : PyData := match o with
  | some l => if l.length ≤ 8 then .list (l.map nodeD) else .none
  | none => .none
theorem run_all {N k n : Nat} {g : List Tab} {c : List Str} {d : PyData} (hk : k < n) (hd : Dx N k d) : (∃ l, nodes g n c d false = some l ∧ l.length ≤ 8 ∧ runW g 60 [(c, d, false)] [] = some (some l)) ∨ (foundD (nodes g n c d false) = .none ∧ (∀ l, nodes g n c d false = some l → ¬ l.length ≤ 8) ∧ runW g 60 [(c, d, false)] [] = some none) := by
  have r := run_one (g := g) n k hk false c d hd 60 [] [] (by decide) (by decide)
  rw [List.nil_append] at r
  cases hn : nodes g n c d false with
  | none =>
    rw [hn] at r
    exact .inr ⟨rfl, fun l h => (by cases h), r⟩
  | some l =>
    rw [hn] at r
    have r' : runW g 60 [(c, d, false)] [] = if 0 + l.length ≤ 8 then runW g (60 - l.length) [] ([] ++ l) else some none := r
    rw [Nat.zero_add, List.nil_append] at r'
    by_cases z : l.length ≤ 8
    · rw [if_pos z] at r'
      refine .inl ⟨l, rfl, z, r'.trans ?_⟩
      obtain ⟨m, hm⟩ := Nat.exists_eq_succ_of_ne_zero (show 60 - l.length ≠ 0 by omega)
      rw [hm]
      rfl
    · rw [if_neg z] at r'
      refine .inr ⟨?_, fun l' h => ?_, r'⟩
      · rw [foundD, if_neg z]
      · rw [← Option.some.inj h]
        exact z
theorem all_parts_eq {N k n : Nat} {g : List Tab} {c : List Str} {d : PyData} (hg : ∀ t ∈ g, t.Gd) (hc : ∀ x ∈ c, SeqAt.shaped (.str x) = true) (hd : Dx N k d) (hk : k ≤ 64) (hn : k < n) : fm_all_parts [.tuple (g.map Tab.enc), .tuple (c.map .str), d, .int 8] = some (foundD (nodes g n c d false)) := by
  unfold fm_all_parts mb_all_parts
  have it : ∀ p ∈ [((c, d, false) : Itm)], ItOk N k p := fun p hp => by
    rw [List.mem_singleton.mp hp]
    exact ⟨hc, hd⟩
  have we := while_eq (N := N) (k := k) hg hk (some (.tuple (c.map .str))) (some d) 60 [(c, d, false)] [] none none none none it (by decide) (by show 1 + 4 * 8 ≤ 100; decide)
  have li : mLst (mCons (mTup (mCons (mVar 1) (mCons (mVar 2) (mCons (mC (.bool false)) mNil)))) mNil) [some (.tuple (g.map Tab.enc)), some (.tuple (c.map .str)), some d, some (.int 8), some (.list []), none, none, none, none, none, none, none] = some (.list [itemD (c, d, false)]) := lst1 (ev_tup (ev_cons rfl (ev_cons rfl (ev_cons rfl rfl))) (line_big (show 3 ≤ 100000 by decide)))
  have nl : mLst mNil [some (.tuple (g.map Tab.enc)), some (.tuple (c.map .str)), some d, some (.int 8), none, none, none, none, none, none, none, none] = some (.list []) := rfl
  rcases run_all (g := g) (c := c) hn hd with ⟨l, e, l8, r⟩ | ⟨e, _, r⟩
  · have e' : foundD (nodes g n c d false) = .list (l.map nodeD) := by
      rw [e, foundD, if_pos l8]
    rw [e']
    obtain ⟨y5, y6, y7, y8, y9, w⟩ := we _ r
    refine ev_run (d := .list (l.map nodeD)) ?_ rfl
    refine ev_set nl (ev_set li ?_)
    refine ev_seq w ?_
    exact ev_ret rfl
  · rw [e]
    have w := we _ r
    refine ev_run (d := .none) ?_ rfl
    refine ev_set nl (ev_set li ?_)
    exact ev_whR w
theorem nodes_words {g : List Tab} : ∀ (n : Nat) (c : List Str) (d : PyData) (b : Bool) (l : List Nd), nodes g n c d b = some l → l ≠ [] ∧ ∀ p ∈ l, ∃ ks, kinds p.1 = some ks
  | 0, _, _, _, _, h => nomatch h
  | n + 1, c, d, b, l, h => by
    have h' : (if partOk g c d = true then (nodesL (fun c' x' => nodes g n c' x' (b || decide (wordS d = "has"))) (kids g c d)).map fun l => (wordS d, b) :: l else none) = some l := h
    by_cases z : partOk g c d = true
    · rw [if_pos z] at h'
      obtain ⟨w, args, ks, e, hw, _⟩ := part_shape z
      have lst : ∀ (ps : List (List Str × PyData)) (l : List Nd), nodesL (fun c' x' => nodes g n c' x' (b || decide (wordS d = "has"))) ps = some l → ∀ p ∈ l, ∃ ks, kinds p.1 = some ks := fun ps => by
        induction ps with
        | nil =>
          intro l hl p hp
          cases hl
          cases hp
        | cons q r ih =>
          intro l hl p hp
          have hl' : ((nodesL (fun c' x' => nodes g n c' x' (b || decide (wordS d = "has"))) r).bind fun lr => (nodes g n q.1 q.2 (b || decide (wordS d = "has"))).bind fun lx => some (lr ++ lx)) = some l := hl
          cases h1 : nodesL (fun c' x' => nodes g n c' x' (b || decide (wordS d = "has"))) r with
          | none =>
            rw [h1] at hl'
            cases hl'
          | some lr =>
            rw [h1, Option.bind_some] at hl'
            cases h2 : nodes g n q.1 q.2 (b || decide (wordS d = "has")) with
            | none =>
              rw [h2] at hl'
              cases hl'
            | some lx =>
              rw [h2, Option.bind_some] at hl'
              rw [← Option.some.inj hl'] at hp
              rcases List.mem_append.mp hp with y | y
              · exact ih lr h1 p y
              · exact (nodes_words n q.1 q.2 _ lx h2).2 p y
      cases hl : nodesL (fun c' x' => nodes g n c' x' (b || decide (wordS d = "has"))) (kids g c d) with
      | none =>
        rw [hl] at h'
        cases h'
      | some l0 =>
        rw [hl] at h'
        have h'' : (wordS d, b) :: l0 = l := Option.some.inj h'
        subst h''
        refine ⟨List.cons_ne_nil _ _, fun p hp => ?_⟩
        rcases List.mem_cons.mp hp with y | y
        · subst y
          subst e
          exact ⟨ks, hw⟩
        · exact lst _ _ hl p y
    · rw [if_neg z] at h'
      cases h'
def hasIn (l : List Nd) : Bool := l.any fun p => decide (p.1 = "has") && p.2
def condB (o : Option (List Nd)) : Bool := match o with
  | some l => decide (l.length ≤ 8) && !hasIn l
  | none => false
theorem kinds_len {w : Str} {ks : List Str} (h : kinds w = some ks) : w.length ≤ 1000 := by
  rcases kinds_cases h with ⟨rfl, rfl⟩ | ⟨rfl, rfl⟩ | ⟨rfl, rfl⟩ | ⟨rfl, rfl⟩ | ⟨rfl, rfl⟩ | ⟨rfl, rfl⟩ | ⟨rfl, rfl⟩ | ⟨rfl, rfl⟩ | ⟨rfl, rfl⟩ | ⟨rfl, rfl⟩ | ⟨rfl, rfl⟩ <;> decide +kernel
theorem has_in_eq {l : List Nd} (h : ∀ p ∈ l, ∃ ks, kinds p.1 = some ks) (h8 : l.length ≤ 8) : dIn false (.tuple [.str "has", .bool true]) (.list (l.map nodeD)) = some (.bool (hasIn l)) := by
  have s1 : SeqAt.shaped (.tuple [.str "has", .bool true]) = true := by decide +kernel
  have s2 : SeqAt.shaped (.list (l.map nodeD)) = true := by
    have dx : Dx 8 2 (.list (l.map nodeD)) := by
      refine .list (by rw [List.length_map]; exact h8) fun d hd => ?_
      obtain ⟨p, hp, rfl⟩ := List.mem_map.mp hd
      obtain ⟨ks, hk⟩ := h p hp
      refine .tuple (show 2 ≤ 8 by decide) fun e he => ?_
      simp only [List.mem_cons, List.not_mem_nil, or_false] at he
      rcases he with rfl | rfl
      · exact .str (kinds_word hk).1 (kinds_len hk)
      · exact .bool _
    exact dx.shaped (by decide)
  show (if SeqAt.shaped (.tuple [.str "has", .bool true]) = true ∧ SeqAt.shaped (.list (l.map nodeD)) = true then some (PyData.bool (xor false ((l.map nodeD).any fun z => PyData.eqv z (.tuple [.str "has", .bool true])))) else none) = _
  rw [if_pos ⟨s1, s2⟩, Bool.false_xor, List.any_map, hasIn]
  refine congrArg (fun told => some (PyData.bool told)) (congrArg (fun f => l.any f) ?_)
  funext p
  show PyData.eqv (nodeD p) (.tuple [.str "has", .bool true]) = (decide (p.1 = "has") && p.2)
  obtain ⟨w, b⟩ := p
  by_cases z : w = "has"
  · subst z
    cases b <;> simp [nodeD, PyData.eqv, PyData.eqvAll]
  · cases b <;> simp [nodeD, PyData.eqv, PyData.eqvAll, z]
theorem is_condition_eq {N k n : Nat} {g : List Tab} {c : List Str} {d : PyData} (hg : ∀ t ∈ g, t.Gd) (hc : ∀ x ∈ c, SeqAt.shaped (.str x) = true) (hd : Dx N k d) (hk : k ≤ 64) (hn : k < n) : fm_is_condition [.tuple (g.map Tab.enc), .tuple (c.map .str), d] = some (.bool (condB (nodes g n c d false))) := by
  have ap := all_parts_eq hg hc hd hk hn
  have bp : ∃ e, fm_bounded_parts [.tuple (g.map Tab.enc), .tuple (c.map .str), d] = some e ∧ dIs true e .none = some (.bool (condB (nodes g n c d false))) := by
    unfold fm_bounded_parts mb_bounded_parts
    cases ho : nodes g n c d false with
    | none =>
      rw [ho] at ap
      exact ⟨.none, ev_run (d := .none) (ev_set (d := .none) (ev_cb (ev_cons rfl (ev_cons rfl (ev_cons rfl (ev_cons rfl rfl)))) ap) (ev_ret (ev_iT (ev_orT rfl) rfl))) rfl, rfl⟩
    | some l =>
      rw [ho] at ap
      by_cases z : l.length ≤ 8
      · have e : foundD (some l) = .list (l.map nodeD) := if_pos z
        rw [e] at ap
        have hi := has_in_eq (nodes_words n c d false l ho).2 z
        have t2 : mTst (mBin (dIn false) (mTup (mCons (mC (.str "has")) (mCons (mC (.bool true)) mNil))) (mVar 3)) [some (.tuple (g.map Tab.enc)), some (.tuple (c.map .str)), some d, some (.list (l.map nodeD))] = some (hasIn l) := ev_tst (ev_bin (tup2 rfl rfl) rfl hi)
        have cb : condB (some l) = !hasIn l := by
          rw [condB, decide_eq_true z, Bool.true_and]
        rw [cb]
        cases hh : hasIn l with
        | true =>
          rw [hh] at t2
          exact ⟨.none, ev_run (d := .none) (ev_set (d := .list (l.map nodeD)) (ev_cb (ev_cons rfl (ev_cons rfl (ev_cons rfl (ev_cons rfl rfl)))) ap) (ev_ret (ev_iT (ev_orF rfl t2) rfl))) rfl, rfl⟩
        | false =>
          rw [hh] at t2
          exact ⟨.list (l.map nodeD), ev_run (d := .list (l.map nodeD)) (ev_set (d := .list (l.map nodeD)) (ev_cb (ev_cons rfl (ev_cons rfl (ev_cons rfl (ev_cons rfl rfl)))) ap) (ev_ret (ev_iF (ev_orF rfl t2) rfl))) rfl, rfl⟩
      · have e : foundD (some l) = .none := if_neg z
        rw [e] at ap
        have cb : condB (some l) = false := by
          rw [condB, decide_eq_false z, Bool.false_and]
        rw [cb]
        exact ⟨.none, ev_run (d := .none) (ev_set (d := .none) (ev_cb (ev_cons rfl (ev_cons rfl (ev_cons rfl (ev_cons rfl rfl)))) ap) (ev_ret (ev_iT (ev_orT rfl) rfl))) rfl, rfl⟩
  obtain ⟨e, b1, b2⟩ := bp
  unfold fm_is_condition mb_is_condition
  exact ev_run (d := .bool (condB (nodes g n c d false))) (ev_ret (ev_bin (ev_cb (ev_cons rfl (ev_cons rfl (ev_cons rfl rfl))) b1) rfl b2)) rfl
/-! ### the law's own counts -/
theorem valK_cons (e : PyData × PyData) (es : List (PyData × PyData)) (key : Key) : valK (e :: es) key = if unKey e.1 = some key then some e.2 else valK es key := by
  unfold valK
  rw [List.find?_cons]
  by_cases z : unKey e.1 = some key
  · rw [if_pos z, decide_eq_true z]
    rfl
  · rw [if_neg z, decide_eq_false z]
theorem hasK_cons (e : PyData × PyData) (es : List (PyData × PyData)) (key : Key) : hasK (e :: es) key = (decide (unKey e.1 = some key) || hasK es key) := rfl
theorem hasK_val (key : Key) : ∀ es : List (PyData × PyData), hasK es key = (valK es key).isSome
  | [] => rfl
  | e :: es => by
    rw [hasK_cons, valK_cons, hasK_val key es]
    by_cases z : unKey e.1 = some key
    · rw [if_pos z, decide_eq_true z]
      rfl
    · rw [if_neg z, decide_eq_false z]
      rfl
theorem valK_map {key k2 : Key} {d : PyData} : ∀ es : List (PyData × PyData), valK (es.map fun e => if unKey e.1 = some key then (e.1, d) else e) k2 = if k2 = key then (if hasK es key = true then some d else none) else valK es k2
  | [] => by
    by_cases z : k2 = key
    · rw [if_pos z]
      rfl
    · rw [if_neg z]
      rfl
  | e :: es => by
    rw [List.map_cons, valK_cons, valK_map es, hasK_cons, valK_cons]
    by_cases y : unKey e.1 = some key
    · rw [if_pos y, decide_eq_true y, Bool.true_or, if_pos rfl]
      by_cases z : k2 = key
      · rw [z, if_pos y, if_pos rfl]
      · rw [if_neg z, if_neg z]
        have ne : ¬ unKey e.1 = some k2 := fun q => z (Option.some.inj (q.symm.trans y))
        rw [if_neg ne, if_neg ne]
    · rw [if_neg y, decide_eq_false y, Bool.false_or]
      by_cases z : k2 = key
      · rw [z, if_neg y, if_pos rfl, if_pos rfl]
      · rw [if_neg z, if_neg z]
theorem valK_app {key k2 : Key} {d : PyData} : ∀ es : List (PyData × PyData), hasK es key = false → valK (es ++ [(keyD key, d)]) k2 = if k2 = key then some d else valK es k2
  | [], _ => by
    rw [List.nil_append, valK_cons]
    have u : unKey (keyD key) = some key := unKey_iff.mpr rfl
    show (if unKey (keyD key) = some k2 then some d else valK [] k2) = _
    rw [u]
    by_cases z : k2 = key
    · rw [z, if_pos rfl, if_pos rfl]
    · rw [if_neg z, if_neg (fun q => z (Option.some.inj q).symm)]
  | e :: es, h => by
    rw [hasK_cons, Bool.or_eq_false_iff] at h
    rw [List.cons_append, valK_cons, valK_app es h.2, valK_cons]
    by_cases z : k2 = key
    · rw [z, if_neg (of_decide_eq_false h.1), if_pos rfl, if_pos rfl]
    · rw [if_neg z, if_neg z]
theorem valK_put (es : List (PyData × PyData)) (key k2 : Key) (d : PyData) : valK (putDK es key d) k2 = if k2 = key then some d else valK es k2 := by
  unfold putDK
  by_cases h : hasK es key = true
  · rw [if_pos h, valK_map, if_pos h]
  · rw [if_neg h, valK_app es (Bool.eq_false_iff.mpr h)]
theorem putDK_len (es : List (PyData × PyData)) (key : Key) (d : PyData) : (putDK es key d).length ≤ es.length + 1 := by
  unfold putDK
  split
  · rw [List.length_map]
    omega
  · rw [List.length_append]
    exact Nat.le_refl _
theorem foldK_len : ∀ (r : List (Str × PyData)) (es : List (PyData × PyData)), (r.foldl (fun es p => putDK es (.inr p.1) p.2) es).length ≤ es.length + r.length
  | [], es => Nat.le_refl _
  | p :: r, es => by
    rw [List.foldl_cons]
    have h1 := foldK_len r (putDK es (.inr p.1) p.2)
    have h2 := putDK_len es (.inr p.1) p.2
    rw [List.length_cons]
    omega
theorem mergeD_len (r : List (Str × PyData)) : (mergeD r).length ≤ r.length := by
  have := foldK_len r []
  rw [List.length_nil, Nat.zero_add] at this
  exact this
def nine : List (Str × PyData) := [("yes", .int 0), ("is", .int 2), ("below", .int 2), ("same", .int 2), ("mine", .int 1), ("empty", .int 1), ("loud", .int 1), ("has", .int 4), ("not", .int 1)]
def cnt : List (PyData × PyData) := putDK (putDK (mergeD nine) (.inr "and") (.int 2)) (.inr "or") (.int 2)
theorem kk_yes : kinds "yes" = some [] := by decide +kernel
theorem kk_is : kinds "is" = some [("column" : Str), ("value" : Str)] := by decide +kernel
theorem kk_below : kinds "below" = some [("column" : Str), ("value" : Str)] := by decide +kernel
theorem kk_same : kinds "same" = some [("column" : Str), ("column" : Str)] := by decide +kernel
theorem kk_mine : kinds "mine" = some [("column" : Str)] := by decide +kernel
theorem kk_empty : kinds "empty" = some [("column" : Str)] := by decide +kernel
theorem kk_loud : kinds "loud" = some [("column" : Str)] := by decide +kernel
theorem kk_has : kinds "has" = some [("table" : Str), ("column" : Str), ("there" : Str), ("condition" : Str)] := by decide +kernel
theorem kk_not : kinds "not" = some [("condition" : Str)] := by decide +kernel
theorem kk_and : kinds "and" = some [("condition" : Str), ("condition" : Str)] := by decide +kernel
theorem kk_or : kinds "or" = some [("condition" : Str), ("condition" : Str)] := by decide +kernel
theorem cnt_val (w : Str) : valK cnt (.inr w) = (kinds w).map fun ks => .int (ks.length : Nat) := by
  have inl : ∀ x : Str, ((Sum.inr w : Key) = .inr x) = (w = x) := fun x => by rw [Sum.inr.injEq]
  unfold cnt mergeD nine
  simp only [List.foldl_cons, List.foldl_nil, valK_put, inl]
  by_cases h_or : w = "or"
  · rw [if_pos h_or, h_or, kk_or]
    rfl
  rw [if_neg h_or]
  by_cases h_and : w = "and"
  · rw [if_pos h_and, h_and, kk_and]
    rfl
  rw [if_neg h_and]
  by_cases h_not : w = "not"
  · rw [if_pos h_not, h_not, kk_not]
    rfl
  rw [if_neg h_not]
  by_cases h_has : w = "has"
  · rw [if_pos h_has, h_has, kk_has]
    rfl
  rw [if_neg h_has]
  by_cases h_loud : w = "loud"
  · rw [if_pos h_loud, h_loud, kk_loud]
    rfl
  rw [if_neg h_loud]
  by_cases h_empty : w = "empty"
  · rw [if_pos h_empty, h_empty, kk_empty]
    rfl
  rw [if_neg h_empty]
  by_cases h_mine : w = "mine"
  · rw [if_pos h_mine, h_mine, kk_mine]
    rfl
  rw [if_neg h_mine]
  by_cases h_same : w = "same"
  · rw [if_pos h_same, h_same, kk_same]
    rfl
  rw [if_neg h_same]
  by_cases h_below : w = "below"
  · rw [if_pos h_below, h_below, kk_below]
    rfl
  rw [if_neg h_below]
  by_cases h_is : w = "is"
  · rw [if_pos h_is, h_is, kk_is]
    rfl
  rw [if_neg h_is]
  by_cases h_yes : w = "yes"
  · rw [if_pos h_yes, h_yes, kk_yes]
    rfl
  rw [if_neg h_yes]
  have e : kinds w = none := by
    unfold kinds
    rw [if_neg (fun q => h_yes q.symm), if_neg (fun q => h_is q.symm), if_neg (fun q => h_below q.symm), if_neg (fun q => h_same q.symm), if_neg (fun q => h_mine q.symm), if_neg (fun q => h_empty q.symm), if_neg (fun q => h_loud q.symm), if_neg (fun q => h_has q.symm), if_neg (fun q => h_not q.symm), if_neg (fun q => h_and q.symm), if_neg (fun q => h_or q.symm)]
  rw [e]
  rfl
theorem ev_disp {i : Nat} {m : En → Option (List (Str × PyData))} {n : En → Option Fl} {env : En} {rs : List (Str × PyData)} {r : Option Fl} (h : m env = some rs) (h2 : rs.length ≤ 15) (h3 : n (env.set i (some (.dict (mergeD rs)))) = r) : mSeq (mDisp i m) n env = r := by
  unfold mSeq mDisp
  rw [h, Option.bind_some, if_pos h2]
  exact h3
theorem ev_putK {i : Nat} {mk mv : En → Option PyData} {n : En → Option Fl} {env : En} {es : List (PyData × PyData)} {x : Str} {d : PyData} {r : Option Fl} (h1 : mv env = some d) (h2 : mVar i env = some (.dict es)) (h3 : mk env = some (.str x)) (h4 : es.length ≤ 100) (h5 : n (env.set i (some (.dict (putDK es (.inr x) d)))) = r) : mSeq (mPutK i mk mv) n env = r := by
  unfold mSeq mPutK
  rw [h1, Option.bind_some, h2, Option.bind_some, h3, Option.bind_some]
  show (((if es.length < sizeLine then some (Fl.nx (env.set i (some (.dict (putDK es (.inr x) d))))) else none) : Option Fl).bind _) = _
  rw [if_pos (line_lt (by omega))]
  exact h5
theorem law_names_eq {N k : Nat} {d : PyData} {g : List Tab} (hd : Dx N k d) (hk : k ≤ 64) (hg : ∀ t ∈ g, t.Gd) : fm_law_names_of [.tuple (g.map Tab.enc), d] = some (match tabOf g d with | some t => .tuple ((t.cols.map Col.name).map .str) | none => .none) := by
  have loop : ∀ (g0 : List Tab) (z : Option PyData), (∀ t ∈ g0, t.Gd) → (∃ t, tabOf g0 d = some t ∧ loopD (gB 2) lb1_law_names_of (g0.map Tab.enc) [some (.tuple (g.map Tab.enc)), some d, z, none] = some (.rt (.tuple ((t.cols.map Col.name).map .str)))) ∨ (tabOf g0 d = none ∧ ∃ z', loopD (gB 2) lb1_law_names_of (g0.map Tab.enc) [some (.tuple (g.map Tab.enc)), some d, z, none] = some (.nx [some (.tuple (g.map Tab.enc)), some d, z', none])) := fun g0 => by
    induction g0 with
    | nil => exact fun z _ => .inr ⟨rfl, z, rfl⟩
    | cons t g0 ih =>
      intro z h0
      have gd := h0 t List.mem_cons_self
      have t2 : mTst (mBin dEq (mBin dIx (mVar 2) (mC (.int 0))) (mVar 1)) [some (.tuple (g.map Tab.enc)), some d, some t.enc, none] = some (nameIs t.name d) := ev_tst (ev_bin (a := .str t.name) (ev_bin rfl rfl rfl) rfl (dEq_name gd.name.shaped hd hk))
      have t1 : mTru (mIsi (isiD "str") (mVar 1)) [some (.tuple (g.map Tab.enc)), some d, some t.enc, none] = some (isiD "str" d) := ev_tru (ev_isi rfl rfl) rfl
      have test : mAndT (mTru (mIsi (isiD "str") (mVar 1))) (mTst (mBin dEq (mBin dIx (mVar 2) (mC (.int 0))) (mVar 1))) [some (.tuple (g.map Tab.enc)), some d, some t.enc, none] = some (nameIs t.name d) := by
        cases d with
        | str y => exact ev_andT t1 t2
        | _ => exact ev_andF t1
      have un : tabOf (t :: g0) d = if nameIs t.name d = true then some t else tabOf g0 d := by
        unfold tabOf
        rw [List.find?_cons]
        cases nameIs t.name d <;> rfl
      cases hn : nameIs t.name d with
      | true =>
        rw [hn] at test un
        refine .inl ⟨t, un, ?_⟩
        have b : lb1_law_names_of [some (.tuple (g.map Tab.enc)), some d, some t.enc, none] = some (.rt (.tuple ((t.cols.map Col.name).map .str))) := ev_if1T test (ev_ret (ev_cb (ev_cons (names_lc gd rfl fun c => rfl) rfl) rfl))
        show ((lb1_law_names_of [some (.tuple (g.map Tab.enc)), some d, some t.enc, none]).bind _) = _
        rw [b]
        rfl
      | false =>
        rw [hn] at test un
        have b : lb1_law_names_of [some (.tuple (g.map Tab.enc)), some d, some t.enc, none] = some (.nx [some (.tuple (g.map Tab.enc)), some d, some t.enc, none]) := ev_if1F test rfl
        have step : loopD (gB 2) lb1_law_names_of ((t :: g0).map Tab.enc) [some (.tuple (g.map Tab.enc)), some d, z, none] = loopD (gB 2) lb1_law_names_of (g0.map Tab.enc) [some (.tuple (g.map Tab.enc)), some d, some t.enc, none] := by
          show ((lb1_law_names_of [some (.tuple (g.map Tab.enc)), some d, some t.enc, none]).bind _) = _
          rw [b]
          rfl
        rw [step, un, if_neg Bool.false_ne_true]
        exact ih _ fun u hu => h0 u (List.mem_cons_of_mem _ hu)
  unfold fm_law_names_of mb_law_names_of
  rcases loop g none hg with ⟨t, e, l⟩ | ⟨e, z, l⟩
  · rw [e]
    exact ev_run (d := .tuple ((t.cols.map Col.name).map .str)) (ev_forRt rfl l) rfl
  · rw [e]
    exact ev_run (d := .none) (ev_for rfl l (ev_ret rfl)) rfl
/-! ### the law's count of parts -/
def sndI (o : Option (List Nd)) : Int := match o with
  | some l => if hasIn l = true then 0 else (l.length : Int)
  | none => 0
theorem hasIn_cons (w : Str) (b : Bool) (l : List Nd) : hasIn ((w, b) :: l) = ((decide (w = "has") && b) || hasIn l) := rfl
theorem hasIn_app (l1 l2 : List Nd) : hasIn (l1 ++ l2) = (hasIn l1 || hasIn l2) := List.any_append
theorem snd_some {l : List Nd} (h : hasIn l = false) : sndI (some l) = (l.length : Int) := by
  rw [sndI, h]
  rfl
theorem snd_bad {l : List Nd} (h : hasIn l = true) : sndI (some l) = 0 := by
  rw [sndI, h]
  rfl
theorem snd_one {w : Str} {b : Bool} {o : Option (List Nd)} (hw : (decide (w = "has") && b) = false) (ho : ∀ l, o = some l → l ≠ []) : sndI (o.map fun l => (w, b) :: l) = if 0 < sndI o then 1 + sndI o else 0 := by
  cases o with
  | none => rfl
  | some l =>
    show sndI (some ((w, b) :: l)) = _
    cases hl : hasIn l with
    | true =>
      rw [snd_bad (by rw [hasIn_cons, hw, hl]; rfl), snd_bad hl]
      rfl
    | false =>
      have := List.length_pos_iff.mpr (ho l rfl)
      rw [snd_some (by rw [hasIn_cons, hw, hl]; rfl), snd_some hl, if_pos (by omega), List.length_cons]
      omega
theorem snd_two {w : Str} {b : Bool} {o1 o2 : Option (List Nd)} (hw : (decide (w = "has") && b) = false) (h1 : ∀ l, o1 = some l → l ≠ []) (h2 : ∀ l, o2 = some l → l ≠ []) : sndI ((o2.bind fun l2 => o1.bind fun l1 => some (l2 ++ l1)).map fun l => (w, b) :: l) = if 0 < min (sndI o1) (sndI o2) then 1 + (sndI o1 + sndI o2) else 0 := by
  cases o2 with
  | none =>
    show (0 : Int) = _
    rw [if_neg (by show ¬ 0 < min _ (0 : Int); omega)]
  | some l2 =>
    cases o1 with
    | none =>
      show (0 : Int) = _
      rw [if_neg (by show ¬ 0 < min (0 : Int) _; omega)]
    | some l1 =>
      show sndI (some ((w, b) :: (l2 ++ l1))) = _
      cases a1 : hasIn l1 with
      | true =>
        rw [snd_bad (by rw [hasIn_cons, hw, hasIn_app, a1, Bool.or_true]; rfl), snd_bad a1, if_neg (by omega)]
      | false =>
        cases a2 : hasIn l2 with
        | true =>
          rw [snd_bad (by rw [hasIn_cons, hw, hasIn_app, a2, a1]; rfl), snd_bad a2, if_neg (by omega)]
        | false =>
          have p1 := List.length_pos_iff.mpr (h1 l1 rfl)
          have p2 := List.length_pos_iff.mpr (h2 l2 rfl)
          rw [snd_some (by rw [hasIn_cons, hw, hasIn_app, a2, a1]; rfl), snd_some a1, snd_some a2, if_pos (by omega), List.length_cons, List.length_append]
          omega
theorem nodesL1 {f : List Str → PyData → Option (List Nd)} {c : List Str} {a : PyData} : nodesL f [(c, a)] = f c a := by
  show ((some [] : Option (List Nd)).bind fun lr => (f c a).bind fun lx => some (lr ++ lx)) = _
  cases f c a <;> rfl
theorem nodesL2 {f : List Str → PyData → Option (List Nd)} {c c2 : List Str} {a a2 : PyData} : nodesL f [(c, a), (c2, a2)] = (f c2 a2).bind fun l2 => (f c a).bind fun l1 => some (l2 ++ l1) := by
  show ((nodesL f [(c2, a2)]).bind fun lr => (f c a).bind fun lx => some (lr ++ lx)) = _
  rw [nodesL1]
theorem grp_ok {g : List Tab} {c : List Str} {w : Str} {args : List PyData} {ks : List Str} (hw : kinds w = some ks) (hl : args.length = ks.length) (hm : w ∈ [("not" : Str), "and", "or"]) : kids g c (.tuple (.str w :: args)) = args.map (fun a => (c, a)) ∧ partOk g c (.tuple (.str w :: args)) = true ∧ decide (w = "has") = false ∧ (args.length = 1 ∨ args.length = 2) := by
  have key : w ≠ "has" ∧ (ks = [("condition" : Str)] ∨ ks = [("condition" : Str), ("condition" : Str)]) := by
    (simp only [List.mem_cons, List.not_mem_nil, or_false] at hm)
    rcases hm with rfl | rfl | rfl
    · rw [kk_not] at hw
      exact ⟨by decide +kernel, .inl (Option.some.inj hw).symm⟩
    · rw [kk_and] at hw
      exact ⟨by decide +kernel, .inr (Option.some.inj hw).symm⟩
    · rw [kk_or] at hw
      exact ⟨by decide +kernel, .inr (Option.some.inj hw).symm⟩
  obtain ⟨nh, hk⟩ := key
  have ic : ∀ a : PyData, isCond ("condition", a) = true := fun a => decide_eq_true rfl
  have ok : ∀ a : PyData, okKind w c "condition" a = true := fun a => by
    rw [okKind, if_neg (by decide +kernel), if_neg (by decide +kernel)]
  have ek : kids g c (.tuple (.str w :: args)) = ((ks.zip args).filter isCond).map fun p => (c, p.2) := by
    rw [kids, if_neg nh, restKids, hw]
  have ep : partOk g c (.tuple (.str w :: args)) = argsOk g c w ks args := by
    rw [partOk, hw]
  rw [ek, ep, argsOk, decide_eq_true hl, decide_eq_false nh]
  rcases hk with rfl | rfl
  · match args, hl with
    | [a], _ =>
      refine ⟨?_, ?_, rfl, .inl rfl⟩
      · show (List.filter isCond [("condition", a)]).map _ = _
        rw [List.filter_cons, ic, if_pos rfl]
        rfl
      · show (true && ((!false || _) && ([okKind w c "condition" a].all id))) = true
        rw [ok]
        rfl
  · match args, hl with
    | [a, a2], _ =>
      refine ⟨?_, ?_, rfl, .inr rfl⟩
      · show (List.filter isCond [("condition", a), ("condition", a2)]).map _ = _
        rw [List.filter_cons, ic, if_pos rfl, List.filter_cons, ic, if_pos rfl]
        rfl
      · show (true && ((!false || _) && ([okKind w c "condition" a, okKind w c "condition" a2].all id))) = true
        rw [ok, ok]
        rfl
def topV (w : Str) : Int := 9 + if w = "below" then 1 else 0
def leafs (w : Str) (args : List PyData) : List PyData := if w = "same" then args.take 2 else args.take 1
theorem leaf_ok {g : List Tab} {c : List Str} {w : Str} {args : List PyData} {ks : List Str} (hw : kinds w = some ks) (hl : args.length = ks.length) (hm : w ∉ [("not" : Str), "and", "or"]) (nh : w ≠ "has") :
    kids g c (.tuple (.str w :: args)) = [] ∧ partOk g c (.tuple (.str w :: args)) = ((leafs w args).all (colOk c) && (!decide (w ∈ [("is" : Str), "below"]) || within (args.getD 1 .none) 0 (topV w))) ∧ (w ∈ [("is" : Str), "below"] → args.length = 2) := by
  have ek : kids g c (.tuple (.str w :: args)) = ((ks.zip args).filter isCond).map fun p => (c, p.2) := by
    rw [kids, if_neg nh, restKids, hw]
  have ep : partOk g c (.tuple (.str w :: args)) = argsOk g c w ks args := by
    rw [partOk, hw]
  have i1 : ∀ a : PyData, isCond ("column", a) = false := fun a => decide_eq_false (show ¬ ("column" : Str) = "condition" by decide +kernel)
  have i2 : ∀ a : PyData, isCond ("value", a) = false := fun a => decide_eq_false (show ¬ ("value" : Str) = "condition" by decide +kernel)
  have o1 : ∀ (v : Str) (a : PyData), okKind v c "column" a = colOk c a := fun v a => by
    rw [okKind, if_pos rfl]
  have o2 : ∀ (v : Str) (a : PyData), okKind v c "value" a = within a 0 (mostV v) := fun v a => by
    rw [okKind, if_neg (by decide +kernel), if_pos rfl]
  rw [ek, ep, argsOk, decide_eq_true hl, decide_eq_false nh, Bool.true_and, Bool.not_false, Bool.true_or, Bool.true_and]
  rcases kinds_cases hw with ⟨rfl, rfl⟩ | ⟨rfl, rfl⟩ | ⟨rfl, rfl⟩ | ⟨rfl, rfl⟩ | ⟨rfl, rfl⟩ | ⟨rfl, rfl⟩ | ⟨rfl, rfl⟩ | ⟨rfl, rfl⟩ | ⟨rfl, rfl⟩ | ⟨rfl, rfl⟩ | ⟨rfl, rfl⟩
  case inl =>
    match args, hl with
    | [], _ =>
      refine ⟨rfl, ?_, fun h => absurd h (by decide +kernel)⟩
      rw [leafs, if_neg (by decide +kernel), decide_eq_false (by decide +kernel)]
      rfl
  case inr.inl =>
    match args, hl with
    | [a, v], _ =>
      refine ⟨?_, ?_, fun _ => rfl⟩
      · show (List.filter isCond [("column", a), ("value", v)]).map _ = _
        rw [List.filter_cons, i1, if_neg Bool.false_ne_true, List.filter_cons, i2, if_neg Bool.false_ne_true]
        rfl
      · rw [leafs, if_neg (by decide +kernel), decide_eq_true (by decide +kernel)]
        show [okKind "is" c "column" a, okKind "is" c "value" v].all id = ([a].all (colOk c) && (!true || within v 0 (topV "is")))
        rw [o1, o2, show mostV "is" = 9 by decide +kernel, show topV "is" = 9 by decide +kernel]
        simp
  case inr.inr.inl =>
    match args, hl with
    | [a, v], _ =>
      refine ⟨?_, ?_, fun _ => rfl⟩
      · show (List.filter isCond [("column", a), ("value", v)]).map _ = _
        rw [List.filter_cons, i1, if_neg Bool.false_ne_true, List.filter_cons, i2, if_neg Bool.false_ne_true]
        rfl
      · rw [leafs, if_neg (by decide +kernel), decide_eq_true (by decide +kernel)]
        show [okKind "below" c "column" a, okKind "below" c "value" v].all id = ([a].all (colOk c) && (!true || within v 0 (topV "below")))
        rw [o1, o2, show mostV "below" = 10 by decide +kernel, show topV "below" = 10 by decide +kernel]
        simp
  case inr.inr.inr.inl =>
    match args, hl with
    | [a, v], _ =>
      refine ⟨?_, ?_, fun h => absurd h (by decide +kernel)⟩
      · show (List.filter isCond [("column", a), ("column", v)]).map _ = _
        rw [List.filter_cons, i1, if_neg Bool.false_ne_true, List.filter_cons, i1, if_neg Bool.false_ne_true]
        rfl
      · rw [leafs, if_pos rfl, decide_eq_false (by decide +kernel)]
        show [okKind "same" c "column" a, okKind "same" c "column" v].all id = ([a, v].all (colOk c) && true)
        rw [o1, o1]
        simp
  case inr.inr.inr.inr.inl =>
    match args, hl with
    | [a], _ =>
      refine ⟨?_, ?_, fun h => absurd h (by decide +kernel)⟩
      · show (List.filter isCond [("column", a)]).map _ = _
        rw [List.filter_cons, i1, if_neg Bool.false_ne_true]
        rfl
      · rw [leafs, if_neg (by decide +kernel), decide_eq_false (by decide +kernel)]
        show [okKind "mine" c "column" a].all id = ([a].all (colOk c) && true)
        rw [o1]
        simp
  case inr.inr.inr.inr.inr.inl =>
    match args, hl with
    | [a], _ =>
      refine ⟨?_, ?_, fun h => absurd h (by decide +kernel)⟩
      · show (List.filter isCond [("column", a)]).map _ = _
        rw [List.filter_cons, i1, if_neg Bool.false_ne_true]
        rfl
      · rw [leafs, if_neg (by decide +kernel), decide_eq_false (by decide +kernel)]
        show [okKind "empty" c "column" a].all id = ([a].all (colOk c) && true)
        rw [o1]
        simp
  case inr.inr.inr.inr.inr.inr.inl =>
    match args, hl with
    | [a], _ =>
      refine ⟨?_, ?_, fun h => absurd h (by decide +kernel)⟩
      · show (List.filter isCond [("column", a)]).map _ = _
        rw [List.filter_cons, i1, if_neg Bool.false_ne_true]
        rfl
      · rw [leafs, if_neg (by decide +kernel), decide_eq_false (by decide +kernel)]
        show [okKind "loud" c "column" a].all id = ([a].all (colOk c) && true)
        rw [o1]
        simp
  case inr.inr.inr.inr.inr.inr.inr.inl => exact absurd rfl nh
  all_goals exact absurd (by decide +kernel) hm
theorem law_sound_eq {N : Nat} {g : List Tab} (hg : ∀ t ∈ g, t.Gd) : ∀ (n k : Nat), k < n → k ≤ 64 → ∀ (c : List Str) (d : PyData) (b : Bool), (∀ x ∈ c, SeqAt.shaped (.str x) = true) → Dx N k d → fm_law_sound n [.tuple (g.map Tab.enc), .tuple (c.map .str), d, .bool false, .bool b] = some (.int (sndI (nodes g n c d b)))
  | 0, _, h, _, _, _, _, _, _ => absurd h (by omega)
  | n + 1, k, hk, h64, c, d, b, hc, hd => by
    show runB 9 (mb_law_sound (fm_law_sound n)) [.tuple (g.map Tab.enc), .tuple (c.map .str), d, .bool false, .bool b] = _
    have ns : nodes g (n + 1) c d b = if partOk g c d = true then (nodesL (fun c' x' => nodes g n c' x' (b || decide (wordS d = "has"))) (kids g c d)).map fun l => (wordS d, b) :: l else none := rfl
    have bad : partOk g c d = false → sndI (nodes g (n + 1) c d b) = 0 := fun q => by
      rw [ns, q]
      rfl
    have sh := hd.shaped h64
    have no : isiD "tuple" d = false → partOk g c d = false → runB 9 (mb_law_sound (fm_law_sound n)) [.tuple (g.map Tab.enc), .tuple (c.map .str), d, .bool false, .bool b] = some (.int (sndI (nodes g (n + 1) c d b))) := fun q1 q2 => by
      rw [bad q2]
      unfold mb_law_sound
      exact ev_run (d := .int 0) (ev_ifR (not_three rfl q1) (ev_ret rfl)) rfl
    cases d with
    | tuple xs =>
      have nil : ∀ env : En, mTup mNil env = some (.tuple []) := fun env => ev_tup rfl (line_big (show 0 ≤ 100000 by decide))
      cases xs with
      | nil =>
        rw [bad rfl]
        unfold mb_law_sound
        exact ev_run (d := .int 0) (ev_ifR (three rfl (ev_orT (ev_tst (ev_bin rfl (nil _) (by rw [dEq, if_pos ⟨by decide +kernel, by decide +kernel⟩]; simp [PyData.eqv, PyData.eqvAll]))))) (ev_ret rfl)) rfl
      | cons x args =>
        have ix : ∀ x5 x6 x7 x8 : Option PyData, mBin dIx (mVar 2) (mC (.int 0)) [some (.tuple (g.map Tab.enc)), some (.tuple (c.map .str)), some (.tuple (x :: args)), some (.bool false), some (.bool b), x5, x6, x7, x8] = some x := fun _ _ _ _ => ev_bin rfl rfl (atI_nat (j := 0) rfl)
        have e0 : mTst (mBin dEq (mVar 2) (mTup mNil)) [some (.tuple (g.map Tab.enc)), some (.tuple (c.map .str)), some (.tuple (x :: args)), some (.bool false), some (.bool b), none, none, none, none] = some false := ev_tst (ev_bin rfl (nil _) (by rw [dEq, if_pos ⟨sh, by decide +kernel⟩]; simp [PyData.eqv, PyData.eqvAll]))
        have other : isiD "str" x = false → partOk g c (.tuple (x :: args)) = false → runB 9 (mb_law_sound (fm_law_sound n)) [.tuple (g.map Tab.enc), .tuple (c.map .str), .tuple (x :: args), .bool false, .bool b] = some (.int (sndI (nodes g (n + 1) c (.tuple (x :: args)) b))) := fun q1 q2 => by
          rw [bad q2]
          unfold mb_law_sound
          have t := ev_notT (ev_tru (ev_isi (ix none none none none) q1) rfl)
          exact ev_run (d := .int 0) (ev_ifR (three rfl (ev_orF e0 t)) (ev_ret rfl)) rfl
        cases x with
        | str w =>
          obtain ⟨j, rfl, hj⟩ : ∃ j, k = j + 1 ∧ ∀ y ∈ args, Dx N j y := by
            cases hd with
            | tuple l hx => exact ⟨_, rfl, fun y hy => hx y (List.mem_cons_of_mem _ hy)⟩
          have sw : SeqAt.shaped (.str w) = true := by
            cases hd with
            | tuple l hx => exact (hx _ List.mem_cons_self).shaped (by omega)
          have t1 := three (env := [some (.tuple (g.map Tab.enc)), some (.tuple (c.map .str)), some (.tuple (.str w :: args)), some (.bool false), some (.bool b), none, none, none, none]) (i := 2) rfl (ev_orF e0 (ev_notT (ev_tru (ev_isi (f := isiD "str") (b := true) (ix none none none none) rfl) rfl)))
          have io : mInO true 5 (mBin dIx (mVar 2) (mC (.int 0))) [some (.tuple (g.map Tab.enc)), some (.tuple (c.map .str)), some (.tuple (.str w :: args)), some (.bool false), some (.bool b), some (.dict cnt), none, none, none] = some (!(kinds w).isSome) := by
            unfold mInO
            rw [ix, Option.bind_some]
            show some (hasK cnt (.inr w) != true) = _
            rw [hasK_val, cnt_val]
            cases kinds w <;> rfl
          have m9 := mergeD_len nine
          have m10 := putDK_len (mergeD nine) (.inr "and") (.int 2)
          have l9 : nine.length = 9 := rfl
          have pre : ∀ {r : PyData} {n2 : En → Option Fl} {mt : En → Option Bool}, mSeq (mIfS mt (mRet (mC (.int 0))) mNext) n2 [some (.tuple (g.map Tab.enc)), some (.tuple (c.map .str)), some (.tuple (.str w :: args)), some (.bool false), some (.bool b), some (.dict cnt), none, none, none] = some (.rt r) → mSeq (mDisp 5 (mP1 "yes" (mC (.int 0)) (mP1 "is" (mC (.int 2)) (mP1 "below" (mC (.int 2)) (mP1 "same" (mC (.int 2)) (mP1 "mine" (mC (.int 1)) (mP1 "empty" (mC (.int 1)) (mP1 "loud" (mC (.int 1)) (mP1 "has" (mC (.int 4)) (mP1 "not" (mC (.int 1)) mP0)))))))))) (mSeq (mPutK 5 (mC (.str "and")) (mC (.int 2))) (mSeq (mPutK 5 (mC (.str "or")) (mC (.int 2))) (mSeq (mIfS mt (mRet (mC (.int 0))) mNext) n2))) [some (.tuple (g.map Tab.enc)), some (.tuple (c.map .str)), some (.tuple (.str w :: args)), some (.bool false), some (.bool b), none, none, none, none] = some (.rt r) := fun {r n2 mt} h => by
            refine ev_disp (rs := nine) rfl (by decide) ?_
            refine ev_putK (es := mergeD nine) (x := "and") (d := .int 2) rfl rfl rfl (by omega) ?_
            refine ev_putK (es := putDK (mergeD nine) (.inr "and") (.int 2)) (x := "or") (d := .int 2) rfl rfl rfl (by omega) ?_
            exact h
          cases hw : kinds w with
          | none =>
            rw [hw] at io
            rw [bad (by rw [partOk, hw])]
            unfold mb_law_sound
            exact ev_run (d := .int 0) (ev_ifF t1 rfl (pre (ev_ifR (ev_orT io) (ev_ret rfl)))) rfl
          | some ks =>
            rw [hw] at io
            have go : mGetO 5 (mBin dIx (mVar 2) (mC (.int 0))) [some (.tuple (g.map Tab.enc)), some (.tuple (c.map .str)), some (.tuple (.str w :: args)), some (.bool false), some (.bool b), some (.dict cnt), none, none, none] = some (.int (ks.length : Nat)) := by
              unfold mGetO
              show ((mBin dIx (mVar 2) (mC (.int 0)) _).bind _) = _
              rw [ix, Option.bind_some]
              show valK cnt (.inr w) = _
              rw [cnt_val, hw]
              rfl
            have ln : mTst (mBin dNe (mCB bLen (mCons (mVar 2) mNil)) (mBin dAdd (mC (.int 1)) (mGetO 5 (mBin dIx (mVar 2) (mC (.int 0)))))) [some (.tuple (g.map Tab.enc)), some (.tuple (c.map .str)), some (.tuple (.str w :: args)), some (.bool false), some (.bool b), some (.dict cnt), none, none, none] = some (decide (args.length ≠ ks.length)) := by
              refine ev_tst (ev_bin (a := .int ((args.length + 1 : Nat) : Int)) (b := .int (1 + ((ks.length : Nat) : Int))) (ev_cb (ev_cons rfl rfl) rfl) (ev_bin rfl go (dAdd_int _ _)) ?_)
              rw [dNe_int]
              refine congrArg (fun told => some (PyData.bool told)) ?_
              by_cases z : args.length = ks.length
              · rw [decide_eq_false (fun q => q z), z]
                simp
                omega
              · rw [decide_eq_true z]
                simp
                omega
            by_cases hl : args.length = ks.length
            · rw [decide_eq_false (fun q => q hl)] at ln
              have t5 := ev_orF io (ev_orF ln (ev_andF (ma := mTru (mVar 3)) (mb := mTst (mBin dEq (mBin dIx (mVar 2) (mC (.int 0))) (mC (.str "mine")))) rfl))
              have t6 : mTst (mBin (dIn false) (mBin dIx (mVar 2) (mC (.int 0))) (mTup (mCons (mC (.str "not")) (mCons (mC (.str "and")) (mCons (mC (.str "or")) mNil))))) [some (.tuple (g.map Tab.enc)), some (.tuple (c.map .str)), some (.tuple (.str w :: args)), some (.bool false), some (.bool b), some (.dict cnt), none, none, none] = some (decide (w ∈ [("not" : Str), "and", "or"])) := by
                refine ev_tst (ev_bin (ix _ _ _ _) (b := .tuple ([("not" : Str), "and", "or"].map .str)) (ev_tup (ev_cons rfl (ev_cons rfl (ev_cons rfl rfl))) (line_big (show 3 ≤ 100000 by decide))) ?_)
                rw [dIn_tup sw (fun x hx => ?_), Bool.false_xor]
                (simp only [List.mem_cons, List.not_mem_nil, or_false] at hx)
                rcases hx with rfl | rfl | rfl <;> decide +kernel
              have t7 : mTst (mBin dEq (mBin dIx (mVar 2) (mC (.int 0))) (mC (.str "has"))) [some (.tuple (g.map Tab.enc)), some (.tuple (c.map .str)), some (.tuple (.str w :: args)), some (.bool false), some (.bool b), some (.dict cnt), none, none, none] = some (decide (w = "has")) := ev_tst (ev_bin (ix _ _ _ _) rfl (dEq_str sw (by decide +kernel)))
              refine ev_run (d := .int (sndI (nodes g (n + 1) c (.tuple (.str w :: args)) b))) ?_ rfl
              unfold mb_law_sound
              refine ev_ifF t1 rfl (pre ?_)
              refine ev_ifF t5 rfl ?_
              have ih : ∀ (c' : List Str) (y : PyData) (b' : Bool), (∀ x ∈ c', SeqAt.shaped (.str x) = true) → Dx N j y → fm_law_sound n [.tuple (g.map Tab.enc), .tuple (c'.map .str), y, .bool false, .bool b'] = some (.int (sndI (nodes g n c' y b'))) := fun c' y b' h1 h2 => law_sound_eq hg n j (by omega) (by omega) c' y b' h1 h2
              have wS : wordS (.tuple (.str w :: args)) = w := rfl
              have ne : ∀ (c' : List Str) (y : PyData) (b' : Bool) (l : List Nd), nodes g n c' y b' = some l → l ≠ [] := fun c' y b' l h => (nodes_words n c' y b' l h).1
              by_cases hm : w ∈ [("not" : Str), "and", "or"]
              · rw [decide_eq_true hm] at t6
                obtain ⟨gk, gp, gh, gl⟩ := grp_ok (g := g) (c := c) hw hl hm
                rw [ns, gp, if_pos rfl, gk, wS, gh, Bool.or_false]
                have many : mLc [8] (mIt (mSl (mVar 2) (mPart (mC (.int 1))) mNoPart)) (gB 8) mYes (le2_law_sound (fm_law_sound n)) [some (.tuple (g.map Tab.enc)), some (.tuple (c.map .str)), some (.tuple (.str w :: args)), some (.bool false), some (.bool b), some (.dict cnt), none, none, none] = some (.list (args.map fun a => .int (sndI (nodes g n c a b)))) := by
                  refine ev_lc (ds := args) (ev_it (d := .tuple args) (ev_sl rfl (ev_part rfl) rfl ?_) rfl) (lc_map (f := fun a => .int (sndI (nodes g n c a b))) fun a ha => ⟨_, gB_ap _ _ _, rfl, ?_⟩) (line_big (by rw [List.length_map]; omega))
                  · show some (PyData.tuple (cutD (.str w :: args) (some ((1 : Nat) : Int)) none)) = _
                    rw [cutD_drop]
                    rfl
                  · exact ev_cb (ev_cons rfl (ev_cons rfl (ev_cons rfl (ev_cons rfl (ev_cons rfl rfl))))) (ih c a b hc (hj a ha))
                have hh : (decide (w = "has") && b) = false := by
                  rw [gh]
                  rfl
                match args, gl, many, t6 with
                | [a], _, many, t6 =>
                  refine ev_ifR t6 (ev_set many (ev_ret ?_))
                  show _ = some (PyData.int (sndI ((nodesL (fun c' x' => nodes g n c' x' b) [(c, a)]).map _)))
                  rw [nodesL1, snd_one hh (ne c a b)]
                  by_cases z : 0 < sndI (nodes g n c a b)
                  · rw [if_pos z]
                    refine ev_iT (ev_tst (ev_bin (a := .int (sndI (nodes g n c a b))) (ev_cb (ev_cons rfl rfl) rfl) rfl (by rw [dGt_int, decide_eq_true z]))) (ev_bin (b := .int (sndI (nodes g n c a b))) rfl (ev_cb (ev_cons rfl rfl) ?_) (dAdd_int _ _))
                    show some (PyData.int [sndI (nodes g n c a b)].sum) = _
                    rw [List.sum_cons, List.sum_nil, Int.add_zero]
                  · rw [if_neg z]
                    exact ev_iF (ev_tst (ev_bin (a := .int (sndI (nodes g n c a b))) (ev_cb (ev_cons rfl rfl) rfl) rfl (by rw [dGt_int, decide_eq_false z]))) rfl
                | [a, a2], _, many, t6 =>
                  refine ev_ifR t6 (ev_set many (ev_ret ?_))
                  show _ = some (PyData.int (sndI ((nodesL (fun c' x' => nodes g n c' x' b) [(c, a), (c, a2)]).map _)))
                  rw [nodesL2, snd_two hh (ne c a b) (ne c a2 b)]
                  by_cases z : 0 < min (sndI (nodes g n c a b)) (sndI (nodes g n c a2 b))
                  · rw [if_pos z]
                    refine ev_iT (ev_tst (ev_bin (a := .int (min (sndI (nodes g n c a b)) (sndI (nodes g n c a2 b)))) (ev_cb (ev_cons rfl rfl) rfl) rfl (by rw [dGt_int, decide_eq_true z]))) (ev_bin (b := .int (sndI (nodes g n c a b) + sndI (nodes g n c a2 b))) rfl (ev_cb (ev_cons rfl rfl) ?_) (dAdd_int _ _))
                    show some (PyData.int [sndI (nodes g n c a b), sndI (nodes g n c a2 b)].sum) = _
                    rw [List.sum_cons, List.sum_cons, List.sum_nil, Int.add_zero]
                  · rw [if_neg z]
                    exact ev_iF (ev_tst (ev_bin (a := .int (min (sndI (nodes g n c a b)) (sndI (nodes g n c a2 b)))) (ev_cb (ev_cons rfl rfl) rfl) rfl (by rw [dGt_int, decide_eq_false z]))) rfl
              · rw [decide_eq_false hm] at t6
                refine ev_ifF t6 rfl ?_
                by_cases hs : w = "has"
                · rw [decide_eq_true hs] at t7
                  subst hs
                  rw [kk_has] at hw
                  cases hw
                  match args, hl, hj, t7, ix, ns, bad, wS with
                  | [ta, aa, ba, ca], _, hj, t7, ix, ns, bad, wS =>
                    have dt : Dx N j ta := hj ta (by simp)
                    have da : Dx N j aa := hj aa (by simp)
                    have db : Dx N j ba := hj ba (by simp)
                    have dc : Dx N j ca := hj ca (by simp)
                    have ln := law_names_eq dt (by omega) hg
                    have o1 : ∀ a : PyData, okKind "has" c "table" a = true := fun a => by rw [okKind, if_neg (by decide +kernel), if_neg (by decide +kernel)]
                    have o2 : ∀ a : PyData, okKind "has" c "column" a = colOk c a := fun a => by rw [okKind, if_pos rfl]
                    have o3 : ∀ a : PyData, okKind "has" c "there" a = true := fun a => by rw [okKind, if_neg (by decide +kernel), if_neg (by decide +kernel)]
                    have o4 : ∀ a : PyData, okKind "has" c "condition" a = true := fun a => by rw [okKind, if_neg (by decide +kernel), if_neg (by decide +kernel)]
                    have ep : partOk g c (.tuple [.str "has", ta, aa, ba, ca]) = (namesTab g [ta, aa, ba, ca] && colOk c aa) := by
                      rw [partOk, kk_has]
                      show argsOk g c "has" _ _ = _
                      rw [argsOk, decide_eq_true (show ([ta, aa, ba, ca] : List PyData).length = ([("table" : Str), "column", "there", "condition"] : List Str).length from rfl), decide_eq_true (show ("has" : Str) = "has" from rfl)]
                      show (true && ((!true || namesTab g [ta, aa, ba, ca]) && [okKind "has" c "table" ta, okKind "has" c "column" aa, okKind "has" c "there" ba, okKind "has" c "condition" ca].all id)) = _
                      rw [o1, o2, o3, o4]
                      simp
                    have i2 : ∀ x7 : Option PyData, mBin dIx (mVar 2) (mC (.int 2)) [some (.tuple (g.map Tab.enc)), some (.tuple (c.map .str)), some (.tuple [.str "has", ta, aa, ba, ca]), some (.bool false), some (.bool b), some (.dict cnt), none, x7, none] = some aa := fun _ => ev_bin rfl rfl (atI_nat (j := 2) rfl)
                    have i3 : ∀ x7 : Option PyData, mBin dIx (mVar 2) (mC (.int 3)) [some (.tuple (g.map Tab.enc)), some (.tuple (c.map .str)), some (.tuple [.str "has", ta, aa, ba, ca]), some (.bool false), some (.bool b), some (.dict cnt), none, x7, none] = some ba := fun _ => ev_bin rfl rfl (atI_nat (j := 3) rfl)
                    have i4 : ∀ x7 : Option PyData, mBin dIx (mVar 2) (mC (.int 4)) [some (.tuple (g.map Tab.enc)), some (.tuple (c.map .str)), some (.tuple [.str "has", ta, aa, ba, ca]), some (.bool false), some (.bool b), some (.dict cnt), none, x7, none] = some ca := fun _ => ev_bin rfl rfl (atI_nat (j := 4) rfl)
                    have i1 : mBin dIx (mVar 2) (mC (.int 1)) [some (.tuple (g.map Tab.enc)), some (.tuple (c.map .str)), some (.tuple [.str "has", ta, aa, ba, ca]), some (.bool false), some (.bool b), some (.dict cnt), none, none, none] = some ta := ev_bin rfl rfl (atI_nat (j := 1) rfl)
                    refine ev_ifR t7 (ev_set (ev_cb (ev_cons rfl (ev_cons i1 rfl)) ln) ?_)
                    cases b with
                    | true =>
                      have zz : sndI (nodes g (n + 1) c (.tuple [.str "has", ta, aa, ba, ca]) true) = 0 := by
                        rw [ns]
                        by_cases z : partOk g c (.tuple [.str "has", ta, aa, ba, ca]) = true
                        · rw [if_pos z]
                          cases nodesL (fun c' x' => nodes g n c' x' (true || decide (wordS (.tuple [.str "has", ta, aa, ba, ca]) = "has"))) (kids g c (.tuple [.str "has", ta, aa, ba, ca])) with
                          | none => rfl
                          | some l =>
                            show sndI (some ((("has" : Str), true) :: l)) = 0
                            exact snd_bad (by rw [hasIn_cons, decide_eq_true rfl]; rfl)
                        · rw [if_neg z]
                          rfl
                      rw [zz]
                      exact ev_ifR (ev_orT rfl) (ev_ret rfl)
                    | false =>
                      have q1 : ∀ x7 : Option PyData, mAndT (mTru (mVar 4)) (mNotT (mTru (mVar 3))) [some (.tuple (g.map Tab.enc)), some (.tuple (c.map .str)), some (.tuple [.str "has", ta, aa, ba, ca]), some (.bool false), some (.bool false), some (.dict cnt), none, x7, none] = some false := fun _ => ev_andF rfl
                      cases hf : tabOf g ta with
                      | none =>
                        have : partOk g c (.tuple [.str "has", ta, aa, ba, ca]) = false := by
                          rw [ep, namesTab, hf]
                          rfl
                        rw [bad this]
                        exact ev_ifR (ev_orF (q1 _) (ev_orT rfl)) (ev_ret rfl)
                      | some tb =>
                        have gd := hg tb (tabOf_mem hf)
                        have en : namesTab g [ta, aa, ba, ca] = colOk (tb.cols.map Col.name) ba := by
                          rw [namesTab, hf]
                        rw [en] at ep
                        have q3 : mTst (mBin (dIn true) (mBin dIx (mVar 2) (mC (.int 2))) (mVar 1)) [some (.tuple (g.map Tab.enc)), some (.tuple (c.map .str)), some (.tuple [.str "has", ta, aa, ba, ca]), some (.bool false), some (.bool false), some (.dict cnt), none, some (.tuple ((tb.cols.map Col.name).map .str)), none] = some (!colOk c aa) := ev_tst (ev_bin (i2 _) rfl (by rw [dIn_col da (by omega) hc .tup, Bool.true_xor]))
                        have q4 : mTst (mBin (dIn true) (mBin dIx (mVar 2) (mC (.int 3))) (mVar 7)) [some (.tuple (g.map Tab.enc)), some (.tuple (c.map .str)), some (.tuple [.str "has", ta, aa, ba, ca]), some (.bool false), some (.bool false), some (.dict cnt), none, some (.tuple ((tb.cols.map Col.name).map .str)), none] = some (!colOk (tb.cols.map Col.name) ba) := ev_tst (ev_bin (i3 _) rfl (by rw [dIn_col db (by omega) (Gd_names gd) .tup, Bool.true_xor]))
                        cases ha : colOk c aa with
                        | false =>
                          rw [ha] at q3 ep
                          rw [bad (by rw [ep, Bool.and_false])]
                          exact ev_ifR (ev_orF (q1 _) (ev_orF rfl (ev_orT q3))) (ev_ret rfl)
                        | true =>
                          rw [ha] at q3 ep
                          cases hb : colOk (tb.cols.map Col.name) ba with
                          | false =>
                            rw [hb] at q4 ep
                            rw [bad ep]
                            exact ev_ifR (ev_orF (q1 _) (ev_orF rfl (ev_orF q3 q4))) (ev_ret rfl)
                          | true =>
                            rw [hb] at q4 ep
                            have ek : kids g c (.tuple [.str "has", ta, aa, ba, ca]) = [(tb.cols.map Col.name, ca)] := by
                              rw [kids, if_pos rfl, hasKids, hf]
                            have it := ih (tb.cols.map Col.name) ca true (Gd_names gd) dc
                            rw [ns, ep, Bool.true_and, if_pos rfl, ek, wS, nodesL1, decide_eq_true rfl, Bool.false_or, snd_one (by rw [Bool.and_false]) (ne _ ca true)]
                            refine ev_ifF (ev_orF (q1 _) (ev_orF rfl (ev_orF q3 q4))) rfl (ev_set (ev_cb (ev_cons rfl (ev_cons rfl (ev_cons (i4 _) (ev_cons rfl (ev_cons rfl rfl))))) it) (ev_ret ?_))
                            by_cases z : 0 < sndI (nodes g n (tb.cols.map Col.name) ca true)
                            · rw [if_pos z]
                              exact ev_iT (ev_tst (ev_bin (a := .int (sndI (nodes g n (tb.cols.map Col.name) ca true))) rfl rfl (by rw [dGt_int, decide_eq_true z]))) (ev_bin rfl rfl (dAdd_int _ _))
                            · rw [if_neg z]
                              exact ev_iF (ev_tst (ev_bin (a := .int (sndI (nodes g n (tb.cols.map Col.name) ca true))) rfl rfl (by rw [dGt_int, decide_eq_false z]))) rfl
                · rw [decide_eq_false hs] at t7
                  refine ev_ifF t7 rfl ?_
                  obtain ⟨lk, lp, l2⟩ := leaf_ok (g := g) (c := c) hw hl hm hs
                  have val : sndI (nodes g (n + 1) c (.tuple (.str w :: args)) b) = if partOk g c (.tuple (.str w :: args)) = true then 1 else 0 := by
                    rw [ns]
                    by_cases z : partOk g c (.tuple (.str w :: args)) = true
                    · rw [if_pos z, if_pos z, lk]
                      show sndI (some [(w, b)]) = 1
                      rw [snd_some (by rw [hasIn_cons, decide_eq_false hs]; rfl)]
                      rfl
                    · rw [if_neg z, if_neg z]
                      rfl
                  rw [val, lp]
                  have cut : mSl (mVar 2) (mPart (mC (.int 1))) (mPart (mIf (mTst (mBin dEq (mBin dIx (mVar 2) (mC (.int 0))) (mC (.str "same")))) (mC (.int 3)) (mC (.int 2)))) [some (.tuple (g.map Tab.enc)), some (.tuple (c.map .str)), some (.tuple (.str w :: args)), some (.bool false), some (.bool b), some (.dict cnt), none, none, none] = some (.tuple (leafs w args)) := by
                    have ts : mTst (mBin dEq (mBin dIx (mVar 2) (mC (.int 0))) (mC (.str "same"))) [some (.tuple (g.map Tab.enc)), some (.tuple (c.map .str)), some (.tuple (.str w :: args)), some (.bool false), some (.bool b), some (.dict cnt), none, none, none] = some (decide (w = "same")) := ev_tst (ev_bin (ix _ _ _ _) rfl (dEq_str sw (by decide +kernel)))
                    by_cases z : w = "same"
                    · rw [decide_eq_true z] at ts
                      refine ev_sl rfl (ev_part rfl) (ev_part (ev_iT ts rfl)) ?_
                      show some (PyData.tuple (cutD (.str w :: args) (some ((1 : Nat) : Int)) (some ((3 : Nat) : Int)))) = _
                      rw [cutD_mid, leafs, if_pos z]
                      rfl
                    · rw [decide_eq_false z] at ts
                      refine ev_sl rfl (ev_part rfl) (ev_part (ev_iF ts rfl)) ?_
                      show some (PyData.tuple (cutD (.str w :: args) (some ((1 : Nat) : Int)) (some ((2 : Nat) : Int)))) = _
                      rw [cutD_mid, leafs, if_neg z]
                      rfl
                  have lx : ∀ y ∈ leafs w args, y ∈ args := fun y hy => by
                    unfold leafs at hy
                    split at hy
                    · exact List.mem_of_mem_take hy
                    · exact List.mem_of_mem_take hy
                  have ll : (leafs w args).length ≤ 2 := by
                    unfold leafs
                    split
                    · rw [List.length_take]
                      omega
                    · rw [List.length_take]
                      omega
                  have t8 : mNotT (mTru (mCB bAll (mCons (mLc [8] (mIt (mSl (mVar 2) (mPart (mC (.int 1))) (mPart (mIf (mTst (mBin dEq (mBin dIx (mVar 2) (mC (.int 0))) (mC (.str "same")))) (mC (.int 3)) (mC (.int 2)))))) (gB 8) mYes (le1_law_sound (fm_law_sound n))) mNil))) [some (.tuple (g.map Tab.enc)), some (.tuple (c.map .str)), some (.tuple (.str w :: args)), some (.bool false), some (.bool b), some (.dict cnt), none, none, none] = some (!(leafs w args).all (colOk c)) := by
                    refine ev_notT (ev_tru (d := .bool ((leafs w args).all (colOk c))) (ev_cb (ev_cons (ev_lc (ds := leafs w args) (ev_it cut rfl) (lc_map (f := fun y => .bool (colOk c y)) fun y hy => ⟨_, gB_ap _ _ _, rfl, ?_⟩) (line_big (by rw [List.length_map]; omega))) rfl) ?_) rfl)
                    · have q := ev_bin (f := dIn false) (ma := mVar 8) (mb := mVar 1) (env := [some (.tuple (g.map Tab.enc)), some (.tuple (c.map .str)), some (.tuple (.str w :: args)), some (.bool false), some (.bool b), some (.dict cnt), none, none, some y]) rfl rfl (dIn_col (hj y (lx y hy)) (by omega) hc .tup)
                      rw [Bool.false_xor] at q
                      cases y with
                      | str z => exact ev_andV (a := true) rfl q
                      | _ => exact ev_andVF rfl
                    · show ((boolsOf ((leafs w args).map fun y => .bool (colOk c y))).map fun ns => PyData.bool (ns.all id)) = _
                      generalize leafs w args = ls
                      have e : ∀ ls : List PyData, boolsOf (ls.map fun y => .bool (colOk c y)) = some (ls.map (colOk c)) := fun ls => by
                        induction ls with
                        | nil => rfl
                        | cons y ls ih =>
                          show ((boolsOf (ls.map fun y => .bool (colOk c y))).map (colOk c y :: ·)) = _
                          rw [ih]
                          rfl
                      rw [e]
                      show some (PyData.bool ((ls.map (colOk c)).all id)) = _
                      rw [List.all_map]
                      rfl
                  have t9 : mAndT (mTst (mBin (dIn false) (mBin dIx (mVar 2) (mC (.int 0))) (mTup (mCons (mC (.str "is")) (mCons (mC (.str "below")) mNil))))) (mNotT (mTru (mCB fm_law_from (mCons (mBin dIx (mVar 2) (mC (.int 2))) (mCons (mC (.int 0)) (mCons (mBin dAdd (mC (.int 9)) (mCB bInt (mCons (mBin dEq (mBin dIx (mVar 2) (mC (.int 0))) (mC (.str "below"))) mNil))) mNil)))))) [some (.tuple (g.map Tab.enc)), some (.tuple (c.map .str)), some (.tuple (.str w :: args)), some (.bool false), some (.bool b), some (.dict cnt), none, none, none] = some (!(!decide (w ∈ [("is" : Str), "below"]) || within (args.getD 1 .none) 0 (topV w))) := by
                    have ti : mTst (mBin (dIn false) (mBin dIx (mVar 2) (mC (.int 0))) (mTup (mCons (mC (.str "is")) (mCons (mC (.str "below")) mNil)))) [some (.tuple (g.map Tab.enc)), some (.tuple (c.map .str)), some (.tuple (.str w :: args)), some (.bool false), some (.bool b), some (.dict cnt), none, none, none] = some (decide (w ∈ [("is" : Str), "below"])) := by
                      refine ev_tst (ev_bin (ix _ _ _ _) (b := .tuple ([("is" : Str), "below"].map .str)) (tup2 rfl rfl) ?_)
                      rw [dIn_tup sw (fun x hx => ?_), Bool.false_xor]
                      (simp only [List.mem_cons, List.not_mem_nil, or_false] at hx)
                      rcases hx with rfl | rfl <;> decide +kernel
                    by_cases z : w ∈ [("is" : Str), "below"]
                    · rw [decide_eq_true z] at ti ⊢
                      have a2 := l2 z
                      match args, a2, ix, ti with
                      | [a, v], _, ix, ti =>
                        have i2 : mBin dIx (mVar 2) (mC (.int 2)) [some (.tuple (g.map Tab.enc)), some (.tuple (c.map .str)), some (.tuple [.str w, a, v]), some (.bool false), some (.bool b), some (.dict cnt), none, none, none] = some v := ev_bin rfl rfl (atI_nat (j := 2) rfl)
                        have tp : mBin dAdd (mC (.int 9)) (mCB bInt (mCons (mBin dEq (mBin dIx (mVar 2) (mC (.int 0))) (mC (.str "below"))) mNil)) [some (.tuple (g.map Tab.enc)), some (.tuple (c.map .str)), some (.tuple [.str w, a, v]), some (.bool false), some (.bool b), some (.dict cnt), none, none, none] = some (.int (topV w)) := by
                          have eb := dEq_str (x := w) (y := "below") sw (by decide +kernel)
                          by_cases y : w = "below"
                          · rw [decide_eq_true y] at eb
                            rw [topV, if_pos y]
                            exact ev_bin rfl (ev_cb (ev_cons (ev_bin (ix _ _ _ _) rfl eb) rfl) rfl) rfl
                          · rw [decide_eq_false y] at eb
                            rw [topV, if_neg y]
                            exact ev_bin rfl (ev_cb (ev_cons (ev_bin (ix _ _ _ _) rfl eb) rfl) rfl) rfl
                        exact ev_andT ti (ev_notT (ev_tru (ev_cb (ev_cons i2 (ev_cons rfl (ev_cons tp rfl))) (law_from_eq v 0 (topV w))) rfl))
                    · rw [decide_eq_false z] at ti ⊢
                      exact ev_andF ti
                  cases ha : (leafs w args).all (colOk c) with
                  | false =>
                    rw [ha] at t8
                    exact ev_ifR t8 (ev_ret rfl)
                  | true =>
                    rw [ha] at t8
                    cases hv : (!decide (w ∈ [("is" : Str), "below"]) || within (args.getD 1 .none) 0 (topV w)) with
                    | false =>
                      rw [hv] at t9
                      exact ev_ifF t8 rfl (ev_ifR t9 (ev_ret rfl))
                    | true =>
                      rw [hv] at t9
                      exact ev_ifF t8 rfl (ev_ifF t9 rfl (ev_ret rfl))
            · rw [decide_eq_true hl] at ln
              have : partOk g c (.tuple (.str w :: args)) = false := by
                rw [partOk, hw]
                show argsOk g c w ks args = false
                rw [argsOk, decide_eq_false hl]
                rfl
              rw [bad this]
              unfold mb_law_sound
              exact ev_run (d := .int 0) (ev_ifF t1 rfl (pre (ev_ifR (ev_orF io (ev_orT ln)) (ev_ret rfl)))) rfl
        | _ => exact other rfl rfl
    | _ => exact no rfl rfl
theorem law_is_condition_eq {N k : Nat} {g : List Tab} {c : List Str} {d : PyData} (hg : ∀ t ∈ g, t.Gd) (hc : ∀ x ∈ c, SeqAt.shaped (.str x) = true) (hd : Dx N k d) (hk : k < 20) : fm_law_is_condition [.tuple (g.map Tab.enc), .tuple (c.map .str), d] = some (.bool (condB (nodes g 20 c d false))) := by
  have s := law_sound_eq hg 20 k hk (by omega) c d false hc hd
  unfold fm_law_is_condition mb_law_is_condition
  refine ev_run (d := .bool (condB (nodes g 20 c d false))) (ev_set (ev_cb (ev_cons rfl (ev_cons rfl (ev_cons rfl (ev_cons rfl (ev_cons rfl rfl))))) s) (ev_ret ?_)) rfl
  refine (ev_andV (ev_bin rfl rfl (dGt_int _ _)) (ev_bin rfl rfl (dLt_int _ _))).trans ?_
  refine congrArg (fun told => some (PyData.bool told)) ?_
  cases ho : nodes g 20 c d false with
  | none => rfl
  | some l =>
    have p := List.length_pos_iff.mpr (nodes_words 20 c d false l ho).1
    rw [condB]
    cases hh : hasIn l with
    | true =>
      rw [snd_bad hh]
      simp
    | false =>
      rw [snd_some hh]
      by_cases z : l.length ≤ 8
      · rw [decide_eq_true z, decide_eq_true (show (0 : Int) < (l.length : Int) by omega), decide_eq_true (show (l.length : Int) < 9 by omega)]
        rfl
      · rw [decide_eq_false z, decide_eq_true (show (0 : Int) < (l.length : Int) by omega), decide_eq_false (show ¬ (l.length : Int) < 9 by omega)]
        rfl
/-! ### drawing conditions -/
theorem pick_any {env : En} {m : En → Option PyData} {s : PyData} {ds : List PyData} {ps : List Int} {k : Nat} (hs : s = .list ds ∨ s = .tuple ds) (hm : m env = some s) (hv : mVar 0 env = some (.list (ps.map .int))) (hk : k < ps.length) (hne : ds ≠ []) :
    ∃ x ∈ ds, mBin dIx m (mBin dMod (mBin dIx (mVar 0) (mC (.int (k : Int)))) (mCB bLen (mCons m mNil))) env = some x := by
  have pos := List.length_pos_iff.mpr hne
  have m0 := Int.emod_nonneg (ps.getD k 0) (show ((ds.length : Nat) : Int) ≠ 0 by omega)
  have m1 := Int.emod_lt_of_pos (ps.getD k 0) (show (0 : Int) < ((ds.length : Nat) : Int) by omega)
  obtain ⟨x, hx, e⟩ := atI_in (xs := ds) m0 m1
  refine ⟨x, hx, ?_⟩
  have ln : mCB bLen (mCons m mNil) env = some (.int ((ds.length : Nat) : Int)) := by
    refine ev_cb (ev_cons hm rfl) ?_
    rcases hs with rfl | rfl <;> rfl
  refine ev_bin hm (ev_bin (ev_bin hv rfl (pick_get hk)) ln (dMod_int (by omega))) ?_
  rcases hs with rfl | rfl
  · exact e
  · exact e
theorem NmOk.dx {w : Str} (h : NmOk w) {N k : Nat} : Dx N k (.str w) := by
  obtain ⟨cs, rfl, h1, h2, h3⟩ := h.cs
  exact .str (shaped_str h3) (by rw [mkS_len]; omega)
def NmA (ws : List Str) : Prop := ∀ w ∈ ws, NmOk w
theorem NmA.shaped {ws : List Str} (h : NmA ws) : ∀ x ∈ ws, SeqAt.shaped (.str x) = true := fun x hx => (h x hx).shaped
theorem NmS.ds {cols : List Str} {c : PyData} (h : NmS cols c) : c = .list (cols.map .str) ∨ c = .tuple (cols.map .str) := by
  cases h with
  | tup => exact .inr rfl
  | lst => exact .inl rfl
theorem pick_col {env : En} {m : En → Option PyData} {c : PyData} {cols : List Str} {ps : List Int} {k : Nat} (hs : NmS cols c) (hm : m env = some c) (hv : mVar 0 env = some (.list (ps.map .int))) (hk : k < ps.length) (hne : cols ≠ []) :
    ∃ x ∈ cols, mBin dIx m (mBin dMod (mBin dIx (mVar 0) (mC (.int (k : Int)))) (mCB bLen (mCons m mNil))) env = some (.str x) := by
  obtain ⟨y, hy, e⟩ := pick_any hs.ds hm hv hk (by simpa using hne)
  obtain ⟨x, hx, rfl⟩ := List.mem_map.mp hy
  exact ⟨x, hx, e⟩
theorem ev_rep {ms : En → Option (List PyData)} {mn : En → Option PyData} {env : En} {ds : List PyData} {j : Nat} (h1 : ms env = some ds) (h2 : mn env = some (.int (j : Int))) (hd : ds.length ≤ 4) (hj : j ≤ 1) : mRep ms mn env = some (.list (List.replicate j ds).flatten) := by
  unfold mRep
  rw [h1, Option.bind_some, h2, Option.bind_some]
  have b : ds.length * j ≤ 4 := Nat.le_trans (Nat.mul_le_mul hd hj) (by decide)
  show (if ds.length ≤ sizeLine ∧ -(2 ^ 63) ≤ (j : Int) ∧ (j : Int) < 2 ^ 63 ∧ ds.length * ((j : Int)).toNat ≤ sizeLine then some (PyData.list (List.replicate ((j : Int)).toNat ds).flatten) else none) = _
  rw [if_pos ⟨line_big (by omega), by omega, by omega, by rw [Int.toNat_natCast]; exact line_big (by omega)⟩, Int.toNat_natCast]
def wordL : List Str := ["is", "below", "same", "empty", "is", "below", "yes", "mine", "loud", "loud", "loud"]
theorem word_dx {N k : Nat} : ∀ w ∈ wordL, Dx N k (.str w) := fun w hw => by
  simp only [wordL, List.mem_cons, List.not_mem_nil, or_false] at hw
  rcases hw with rfl | rfl | rfl | rfl | rfl | rfl | rfl | rfl | rfl | rfl | rfl <;> exact Dx.txt (by decide +kernel)
def Ways (w : Str) : Prop := w = "lmh" ∨ w = "lm"
theorem ways_m {w : Str} (h : Ways w) : Txt.count w "m" = 1 := by
  rcases h with rfl | rfl <;> decide +kernel
theorem ways_l {w : Str} (h : Ways w) : Txt.count w "l" = 1 := by
  rcases h with rfl | rfl <;> decide +kernel
theorem ev_count {ma mb : En → Option PyData} {env : En} {x y : Str} {j : Nat} (h1 : ma env = some (.str x)) (h2 : mb env = some (.str y)) (h3 : Txt.count x y = j) : mCount ma mb env = some (.int (j : Int)) := by
  unfold mCount
  rw [h1, Option.bind_some, h2, Option.bind_some]
  show some (PyData.int (Txt.count x y)) = _
  rw [h3]
theorem atom_eq {ps : List Int} {c : PyData} {cols : List Str} {ways : Str} {N : Nat} (hp : 6 ≤ ps.length) (hw : Ways ways) (hn : NmS cols c) (hc : NmA cols) (hne : cols ≠ []) (hN : 5 ≤ N) : ∃ xs, fm_law_atom [.list (ps.map .int), c, .str ways] = some (.tuple xs) ∧ Dx N 1 (.tuple xs) := by
  have w1 : mBin dAdd (mLst (mCons (mC (.str "is")) (mCons (mC (.str "below")) (mCons (mC (.str "same")) (mCons (mC (.str "empty")) (mCons (mC (.str "is")) (mCons (mC (.str "below")) (mCons (mC (.str "yes")) mNil)))))))) (mRep (mCons (mC (.str "mine")) mNil) (mCount (mVar 2) (mC (.str "m")))) [some (.list (ps.map .int)), some c, some (.str ways), none, none, none, none] = some (.list ([("is" : Str), "below", "same", "empty", "is", "below", "yes", "mine"].map .str)) :=
    ev_bin (ev_lst (ev_cons rfl (ev_cons rfl (ev_cons rfl (ev_cons rfl (ev_cons rfl (ev_cons rfl (ev_cons rfl rfl))))))) (line_big (show 7 ≤ 100000 by decide))) (ev_rep (j := 1) (ds := [.str "mine"]) rfl (ev_count rfl rfl (ways_m hw)) (by decide) (by decide)) (dAdd_list (show 7 + 1 ≤ 100000 by decide))
  have w2 : mBin dAdd (mVar 3) (mRep (mCons (mC (.str "loud")) (mCons (mC (.str "loud")) (mCons (mC (.str "loud")) mNil))) (mCount (mVar 2) (mC (.str "l")))) [some (.list (ps.map .int)), some c, some (.str ways), some (.list ([("is" : Str), "below", "same", "empty", "is", "below", "yes", "mine"].map .str)), none, none, none] = some (.list (wordL.map .str)) :=
    ev_bin rfl (ev_rep (j := 1) (ds := [.str "loud", .str "loud", .str "loud"]) rfl (ev_count rfl rfl (ways_l hw)) (by decide) (by decide)) (dAdd_list (show 8 + 3 ≤ 100000 by decide))
  obtain ⟨w, hwd, w3⟩ := pick_col (env := [some (.list (ps.map .int)), some c, some (.str ways), some (.list (wordL.map .str)), none, none, none]) (m := mVar 3) (k := 0) (cols := wordL) .lst rfl rfl (by omega) (by decide)
  obtain ⟨x, hx, w4⟩ := pick_col (env := [some (.list (ps.map .int)), some c, some (.str ways), some (.list (wordL.map .str)), some (.str w), none, none]) (m := mVar 1) (k := 1) hn rfl rfl (by omega) hne
  obtain ⟨y, hy, w5⟩ := pick_col (env := [some (.list (ps.map .int)), some c, some (.str ways), some (.list (wordL.map .str)), some (.str w), some (.str x), none]) (m := mVar 1) (k := 2) hn rfl rfl (by omega) hne
  have dw : Dx N 0 (.str w) := word_dx w hwd
  have sw := dw.shaped (by decide)
  have dX : Dx N 0 (.str x) := (hc x hx).dx
  have dY : Dx N 0 (.str y) := (hc y hy).dx
  have q1 : ∀ z6 : Option PyData, mTst (mBin dEq (mVar 4) (mC (.str "yes"))) [some (.list (ps.map .int)), some c, some (.str ways), some (.list (wordL.map .str)), some (.str w), some (.str x), z6] = some (decide (w = "yes")) := fun _ => ev_tst (ev_bin rfl rfl (dEq_str sw (by decide +kernel)))
  have q2 : mTst (mBin dEq (mVar 4) (mC (.str "same"))) [some (.list (ps.map .int)), some c, some (.str ways), some (.list (wordL.map .str)), some (.str w), some (.str x), none] = some (decide (w = "same")) := ev_tst (ev_bin rfl rfl (dEq_str sw (by decide +kernel)))
  have q3 : mTst (mBin (dIn false) (mVar 4) (mTup (mCons (mC (.str "is")) (mCons (mC (.str "below")) mNil)))) [some (.list (ps.map .int)), some c, some (.str ways), some (.list (wordL.map .str)), some (.str w), some (.str x), none] = some (decide (w ∈ [("is" : Str), "below"])) := by
    refine ev_tst (ev_bin rfl (b := .tuple ([("is" : Str), "below"].map .str)) (tup2 rfl rfl) ?_)
    rw [dIn_tup sw (fun x hx => ?_), Bool.false_xor]
    (simp only [List.mem_cons, List.not_mem_nil, or_false] at hx)
    rcases hx with rfl | rfl <;> decide +kernel
  have head : ∀ {r : PyData}, (mSeq (mIfS (mTst (mBin dEq (mVar 4) (mC (.str "yes")))) (mRet (mTup (mCons (mVar 4) mNil))) mNext) (mSeq (mIfS (mTst (mBin dEq (mVar 4) (mC (.str "same")))) (mRet (mTup (mCons (mVar 4) (mCons (mVar 5) (mCons (mBin dIx (mVar 1) (mBin dMod (mBin dIx (mVar 0) (mC (.int 2))) (mCB bLen (mCons (mVar 1) mNil)))) mNil))))) mNext) (mSeq (mIfS (mTst (mBin (dIn false) (mVar 4) (mTup (mCons (mC (.str "is")) (mCons (mC (.str "below")) mNil))))) (mSeq (mAsg (mBin dIx (mLst (mCons (mBin dMod (mBin dIx (mVar 0) (mC (.int 3))) (mC (.int 3))) (mCons (mBin dMod (mBin dIx (mVar 0) (mC (.int 3))) (mC (.int 10))) mNil))) (mBin dMod (mBin dIx (mVar 0) (mC (.int 4))) (mC (.int 2)))) (gB 6)) (mRet (mTup (mCons (mVar 4) (mCons (mVar 5) (mCons (mBin dAdd (mVar 6) (mCB bInt (mCons (mAnd (mBin dEq (mVar 4) (mC (.str "below"))) (mBin dEq (mBin dMod (mBin dIx (mVar 0) (mC (.int 5))) (mC (.int 2))) (mC (.int 0)))) mNil))) mNil)))))) mNext) (mRet (mTup (mCons (mVar 4) (mCons (mVar 5) mNil))))))) [some (.list (ps.map .int)), some c, some (.str ways), some (.list (wordL.map .str)), some (.str w), some (.str x), none] = some (.rt r) → fm_law_atom [.list (ps.map .int), c, .str ways] = some r := fun {r} h => by
    unfold fm_law_atom mb_law_atom
    exact ev_run (d := r) (ev_set w1 (ev_set w2 (ev_set w3 (ev_set w4 h)))) rfl
  by_cases z1 : w = "yes"
  · rw [decide_eq_true z1] at q1
    exact ⟨_, head (ev_ifR (q1 none) (ev_ret (tup1 rfl))), Dx.one (by omega) dw⟩
  rw [decide_eq_false z1] at q1
  by_cases z2 : w = "same"
  · rw [decide_eq_true z2] at q2
    refine ⟨_, head (ev_ifF (q1 none) rfl (ev_ifR q2 (ev_ret (ev_tup (ev_cons rfl (ev_cons rfl (ev_cons w5 rfl))) (line_big (show 3 ≤ 100000 by decide)))))), ?_⟩
    exact .tuple (show 3 ≤ N by omega) (DxA.cons dw (DxA.cons dX (DxA.cons dY DxA.nil)))
  rw [decide_eq_false z2] at q2
  by_cases z3 : w ∈ [("is" : Str), "below"]
  · rw [decide_eq_true z3] at q3
    have v0 : mBin dIx (mVar 0) (mC (.int 3)) [some (.list (ps.map .int)), some c, some (.str ways), some (.list (wordL.map .str)), some (.str w), some (.str x), none] = some (.int (ps.getD 3 0)) := ev_bin rfl rfl (pick_get (k := 3) (by omega))
    have m0 := Int.emod_nonneg (ps.getD 4 0) (show (2 : Int) ≠ 0 by decide)
    have m1 := Int.emod_lt_of_pos (ps.getD 4 0) (show (0 : Int) < 2 by decide)
    obtain ⟨v, hv, ev⟩ := atI_in (xs := [PyData.int (ps.getD 3 0 % 3), PyData.int (ps.getD 3 0 % 10)]) m0 m1
    obtain ⟨i, rfl⟩ : ∃ i, v = .int i := by
      simp only [List.mem_cons, List.not_mem_nil, or_false] at hv
      rcases hv with rfl | rfl <;> exact ⟨_, rfl⟩
    have v1 : mBin dIx (mLst (mCons (mBin dMod (mBin dIx (mVar 0) (mC (.int 3))) (mC (.int 3))) (mCons (mBin dMod (mBin dIx (mVar 0) (mC (.int 3))) (mC (.int 10))) mNil))) (mBin dMod (mBin dIx (mVar 0) (mC (.int 4))) (mC (.int 2))) [some (.list (ps.map .int)), some c, some (.str ways), some (.list (wordL.map .str)), some (.str w), some (.str x), none] = some (.int i) :=
      ev_bin (ev_lst (ev_cons (ev_bin v0 rfl (dMod_int (by decide))) (ev_cons (ev_bin v0 rfl (dMod_int (by decide))) rfl)) (line_big (show 2 ≤ 100000 by decide))) (ev_bin (ev_bin rfl rfl (pick_get (k := 4) (by omega))) rfl (dMod_int (by decide))) ev
    have v2 : mCB bInt (mCons (mAnd (mBin dEq (mVar 4) (mC (.str "below"))) (mBin dEq (mBin dMod (mBin dIx (mVar 0) (mC (.int 5))) (mC (.int 2))) (mC (.int 0)))) mNil) [some (.list (ps.map .int)), some c, some (.str ways), some (.list (wordL.map .str)), some (.str w), some (.str x), some (.int i)] = bInt [.bool (decide (w = "below") && (ps.getD 5 0 % 2 == 0))] :=
      ev_cb (ev_cons (ev_andV (ev_bin rfl rfl (dEq_str sw (by decide +kernel))) (ev_bin (ev_bin (ev_bin rfl rfl (pick_get (k := 5) (by omega))) rfl (dMod_int (by decide))) rfl (dEq_int _ _))) rfl) rfl
    obtain ⟨i2, e2⟩ : ∃ i2, bInt [.bool (decide (w = "below") && (ps.getD 5 0 % 2 == 0))] = some (.int i2) := by
      cases (decide (w = "below") && (ps.getD 5 0 % 2 == 0)) <;> exact ⟨_, rfl⟩
    rw [e2] at v2
    refine ⟨_, head (ev_ifF (q1 none) rfl (ev_ifF q2 rfl (ev_ifR q3 (ev_set v1 (ev_ret (ev_tup (ev_cons rfl (ev_cons rfl (ev_cons (ev_bin rfl v2 (dAdd_int _ _)) rfl))) (line_big (show 3 ≤ 100000 by decide)))))))), ?_⟩
    exact .tuple (show 3 ≤ N by omega) (DxA.cons dw (DxA.cons dX (DxA.cons (.int _) DxA.nil)))
  · rw [decide_eq_false z3] at q3
    exact ⟨_, head (ev_ifF (q1 none) rfl (ev_ifF q2 rfl (ev_ifF q3 rfl (ev_ret (tup2 rfl rfl))))), Dx.two (by omega) dw dX⟩
theorem dAdd_tup {xs ys : List PyData} (h : xs.length + ys.length ≤ 100000) : dAdd (.tuple xs) (.tuple ys) = some (.tuple (xs ++ ys)) := if_pos (line_big h)
theorem ways_h {w : Str} (h : Ways w) : ∃ j : Nat, j ≤ 1 ∧ Txt.count w "h" = (j : Int) := by
  rcases h with rfl | rfl
  · exact ⟨1, by decide, by decide +kernel⟩
  · exact ⟨0, by decide, by decide +kernel⟩
theorem ways_r {w : Str} (h : Ways w) : Txt.replace w "h" "" = "lm" := by
  rcases h with rfl | rfl <;> decide +kernel
theorem ev_repl {m : En → Option PyData} {env : En} {w : Str} (h : m env = some (.str w)) (hw : Ways w) : mRepl "h" "" m env = some (.str "lm") := by
  unfold mRepl
  rw [h, Option.bind_some]
  have l : w.length + (w.length + 1) * ("" : Str).length ≤ 16777216 := by
    rcases hw with rfl | rfl <;> decide +kernel
  show (if w.length + (w.length + 1) * ("" : Str).length ≤ 16777216 then some (PyData.str (Txt.replace w "h" "")) else none) = _
  rw [if_pos l, ways_r hw]
theorem Gd.names {t : Tab} (g : t.Gd) : NmA (t.cols.map Col.name) := fun x hx => by
  obtain ⟨c, hc, rfl⟩ := List.mem_map.mp hx
  exact (g.cols.1 c hc).2
theorem Gd.some_names {t : Tab} (g : t.Gd) : t.cols.map Col.name ≠ [] := fun z => by
  have := g.some
  rw [List.map_eq_nil_iff] at z
  rw [z] at this
  cases this
def binL (p j : Nat) : List Str := [("not" : Str)] ++ (List.replicate (if 2 < p then 1 else 0) [("and" : Str), "or", "and", "or"]).flatten ++ (List.replicate j [("has" : Str)]).flatten
theorem flat_map (j : Nat) (ws : List Str) : (List.replicate j (ws.map PyData.str)).flatten = ((List.replicate j ws).flatten).map PyData.str := by
  (rw [List.map_flatten, List.map_replicate])
theorem bin_mem {p j : Nat} {w : Str} (h : w ∈ binL p j) : w = "not" ∨ w = "has" ∨ ((w = "and" ∨ w = "or") ∧ 2 < p) := by
  unfold binL at h
  (rcases List.mem_append.mp h with q | q)
  · rcases List.mem_append.mp q with r | r
    · exact .inl (List.mem_singleton.mp r)
    · by_cases z : 2 < p
      · rw [if_pos z] at r
        simp only [List.replicate_one, List.flatten_cons, List.flatten_nil, List.append_nil, List.mem_cons, List.not_mem_nil, or_false] at r
        refine .inr (.inr ⟨?_, z⟩)
        rcases r with r | r | r | r
        · exact .inl r
        · exact .inr r
        · exact .inl r
        · exact .inr r
      · rw [if_neg z] at r
        cases r
  · obtain ⟨l, hl, hw⟩ := List.mem_flatten.mp q
    rw [List.eq_of_mem_replicate hl] at hw
    exact .inr (.inl (List.mem_singleton.mp hw))
theorem bin_dx {p j : Nat} {w : Str} (h : w ∈ binL p j) {N k : Nat} : Dx N k (.str w) := by
  rcases bin_mem h with rfl | rfl | ⟨rfl | rfl, _⟩ <;> exact Dx.txt (by decide +kernel)
theorem condition_eq {N : Nat} {g : List Tab} (hN : 5 ≤ N) (hg : ∀ t ∈ g, t.Gd) (g1 : g ≠ []) : ∀ (n p : Nat), 1 ≤ p → p ≤ n + 1 → p ≤ 100 → ∀ (ps : List Int) (c : PyData) (cols : List Str) (ways : Str), 6 * p ≤ ps.length → Ways ways → NmS cols c → NmA cols → cols ≠ [] →
    ∃ xs, fm_law_condition (n + 1) [.list (ps.map .int), .int (p : Int), .tuple (g.map Tab.enc), c, .str ways] = some (.tuple xs) ∧ Dx N p (.tuple xs)
  | n, p, p1, pn, p100, ps, c, cols, ways, hp, hw, hn, hc, hne => by
    have test : mTst (mBin dLt (mVar 1) (mC (.int 2))) [some (.list (ps.map .int)), some (.int (p : Int)), some (.tuple (g.map Tab.enc)), some c, some (.str ways), none, none, none, none, none, none, none, none] = some (decide (p < 2)) := by
      refine ev_tst (ev_bin rfl rfl ?_)
      rw [dLt_int]
      refine congrArg (fun told => some (PyData.bool told)) ?_
      by_cases z : p < 2
      · rw [decide_eq_true z, decide_eq_true (by omega)]
      · rw [decide_eq_false z, decide_eq_false (by omega)]
    show ∃ xs, runB 13 (mb_law_condition (fm_law_condition n)) [.list (ps.map .int), .int (p : Int), .tuple (g.map Tab.enc), c, .str ways] = some (.tuple xs) ∧ Dx N p (.tuple xs)
    by_cases z : p < 2
    · rw [decide_eq_true z] at test
      obtain ⟨xs, a1, a2⟩ := atom_eq (ps := ps) (c := c) (ways := ways) (by omega) hw hn hc hne hN
      refine ⟨xs, ?_, a2.mono (Nat.le_refl _) p1⟩
      unfold mb_law_condition
      exact ev_run (d := .tuple xs) (ev_ifR test (ev_ret (ev_cb (ev_cons rfl (ev_cons rfl (ev_cons rfl rfl))) a1))) rfl
    · rw [decide_eq_false z] at test
      obtain ⟨m, rfl⟩ := Nat.exists_eq_succ_of_ne_zero (show n ≠ 0 by omega)
      have ih := fun (q : Nat) (h1 : 1 ≤ q) (h2 : q < p) => condition_eq hN hg g1 m q h1 (by omega) (by omega)
      obtain ⟨j, j1, hj⟩ := ways_h hw
      have gt : mCB bInt (mCons (mBin dGt (mVar 1) (mC (.int 2))) mNil) [some (.list (ps.map .int)), some (.int (p : Int)), some (.tuple (g.map Tab.enc)), some c, some (.str ways), none, none, none, none, none, none, none, none] = some (.int ((if 2 < p then 1 else 0 : Nat) : Int)) := by
        by_cases y : 2 < p
        · rw [if_pos y]
          refine ev_cb (ev_cons (d := .bool true) (ev_bin rfl rfl ?_) rfl) rfl
          rw [dGt_int, decide_eq_true (by omega)]
        · rw [if_neg y]
          refine ev_cb (ev_cons (d := .bool false) (ev_bin rfl rfl ?_) rfl) rfl
          rw [dGt_int, decide_eq_false (by omega)]
      have le1 : (if 2 < p then 1 else 0 : Nat) ≤ 1 := by split <;> decide
      have words : mBin dAdd (mBin dAdd (mLst (mCons (mC (.str "not")) mNil)) (mRep (mCons (mC (.str "and")) (mCons (mC (.str "or")) (mCons (mC (.str "and")) (mCons (mC (.str "or")) mNil)))) (mCB bInt (mCons (mBin dGt (mVar 1) (mC (.int 2))) mNil)))) (mRep (mCons (mC (.str "has")) mNil) (mCount (mVar 4) (mC (.str "h")))) [some (.list (ps.map .int)), some (.int (p : Int)), some (.tuple (g.map Tab.enc)), some c, some (.str ways), none, none, none, none, none, none, none, none] = some (.list ((binL p j).map .str)) := by
        have r1 := ev_rep (ms := mCons (mC (.str "and")) (mCons (mC (.str "or")) (mCons (mC (.str "and")) (mCons (mC (.str "or")) mNil)))) (ds := [("and" : Str), "or", "and", "or"].map .str) rfl gt (by decide) le1
        have r2 := ev_rep (env := [some (.list (ps.map .int)), some (.int (p : Int)), some (.tuple (g.map Tab.enc)), some c, some (.str ways), none, none, none, none, none, none, none, none]) (ms := mCons (mC (.str "has")) mNil) (mn := mCount (mVar 4) (mC (.str "h"))) (ds := [("has" : Str)].map .str) rfl (ev_count rfl rfl hj) (by decide) j1
        rw [flat_map] at r1 r2
        have l1 : (List.replicate (if 2 < p then 1 else 0) [("and" : Str), "or", "and", "or"]).flatten.length ≤ 4 := by
          split <;> decide
        have l2 : (List.replicate j [("has" : Str)]).flatten.length ≤ 1 := by
          rcases Nat.le_one_iff_eq_zero_or_eq_one.mp j1 with rfl | rfl <;> decide
        refine ev_bin (ev_bin (lst1 rfl) r1 (dAdd_list (by rw [List.length_singleton, List.length_map]; omega))) r2 ?_
        rw [dAdd_list (by rw [List.length_append, List.length_singleton, List.length_map, List.length_map]; omega), binL, List.map_append, List.map_append]
        rfl
      have bne : binL p j ≠ [] := fun q => by
        unfold binL at q
        rw [List.append_assoc] at q
        cases q
      obtain ⟨w, hwd, w3⟩ := pick_col (env := [some (.list (ps.map .int)), some (.int (p : Int)), some (.tuple (g.map Tab.enc)), some c, some (.str ways), some (.list ((binL p j).map .str)), none, none, none, none, none, none, none]) (m := mVar 5) (k := 0) (cols := binL p j) .lst rfl rfl (by omega) bne
      have dw : ∀ {k : Nat}, Dx N k (.str w) := bin_dx hwd
      have sw : SeqAt.shaped (.str w) = true := (dw (k := 0)).shaped (by decide)
      have q1 : mTst (mBin dEq (mVar 6) (mC (.str "has"))) [some (.list (ps.map .int)), some (.int (p : Int)), some (.tuple (g.map Tab.enc)), some c, some (.str ways), some (.list ((binL p j).map .str)), some (.str w), none, none, none, none, none, none] = some (decide (w = "has")) := ev_tst (ev_bin rfl rfl (dEq_str sw (by decide +kernel)))
      have q2 : mTst (mBin dEq (mVar 6) (mC (.str "not"))) [some (.list (ps.map .int)), some (.int (p : Int)), some (.tuple (g.map Tab.enc)), some c, some (.str ways), some (.list ((binL p j).map .str)), some (.str w), none, none, none, none, none, none] = some (decide (w = "not")) := ev_tst (ev_bin rfl rfl (dEq_str sw (by decide +kernel)))
      have fewer : ∀ (x7 x8 x9 x10 x11 x12 : Option PyData), mBin dSub (mVar 1) (mC (.int 1)) [some (.list (ps.map .int)), some (.int (p : Int)), some (.tuple (g.map Tab.enc)), some c, some (.str ways), some (.list ((binL p j).map .str)), some (.str w), x7, x8, x9, x10, x11, x12] = some (.int ((p - 1 : Nat) : Int)) := fun _ _ _ _ _ _ => by
        refine ev_bin rfl rfl ?_
        rw [dSub_int]
        refine congrArg (fun z => some (PyData.int z)) ?_
        omega
      have rest : ∀ (x7 x8 x9 x10 x11 x12 : Option PyData), mSl (mVar 0) (mPart (mC (.int 6))) mNoPart [some (.list (ps.map .int)), some (.int (p : Int)), some (.tuple (g.map Tab.enc)), some c, some (.str ways), some (.list ((binL p j).map .str)), some (.str w), x7, x8, x9, x10, x11, x12] = some (.list ((ps.drop 6).map .int)) := fun _ _ _ _ _ _ => ev_sl rfl (ev_part rfl) rfl (slice_ints_from (a := 6) rfl)
      have dl : (ps.drop 6).length = ps.length - 6 := List.length_drop
      unfold mb_law_condition
      by_cases zh : w = "has"
      · rw [decide_eq_true zh] at q1
        obtain ⟨te, hte, t1⟩ := pick_any (env := [some (.list (ps.map .int)), some (.int (p : Int)), some (.tuple (g.map Tab.enc)), some c, some (.str ways), some (.list ((binL p j).map .str)), some (.str w), none, none, none, none, none, none]) (m := mVar 2) (k := 1) (ds := g.map Tab.enc) (ps := ps) (.inr rfl) rfl rfl (by omega) (by simpa using g1)
        obtain ⟨t, ht, rfl⟩ := List.mem_map.mp hte
        have gd := hg t ht
        have nl : mLc [12] (mIt (mBin dIx (mVar 9) (mC (.int 2)))) (gB 12) mYes (le1_law_condition (fm_law_condition (m + 1))) [some (.list (ps.map .int)), some (.int (p : Int)), some (.tuple (g.map Tab.enc)), some c, some (.str ways), some (.list ((binL p j).map .str)), some (.str w), none, none, some t.enc, none, none, none] = some (.list ((t.cols.map Col.name).map .str)) := names_lc gd rfl fun _ => rfl
        obtain ⟨xs, a1, a2⟩ := ih (p - 1) (by omega) (by omega) (ps.drop 6) (.list ((t.cols.map Col.name).map .str)) (t.cols.map Col.name) "lm" (by omega) (.inr rfl) .lst (Gd.names gd) (Gd.some_names gd)
        obtain ⟨x, hx, b1⟩ := pick_col (env := [some (.list (ps.map .int)), some (.int (p : Int)), some (.tuple (g.map Tab.enc)), some c, some (.str ways), some (.list ((binL p j).map .str)), some (.str w), none, none, some t.enc, some (.list ((t.cols.map Col.name).map .str)), some (.tuple xs), none]) (m := mVar 3) (k := 2) hn rfl rfl (by omega) hne
        obtain ⟨y, hy, b2⟩ := pick_col (env := [some (.list (ps.map .int)), some (.int (p : Int)), some (.tuple (g.map Tab.enc)), some c, some (.str ways), some (.list ((binL p j).map .str)), some (.str w), none, none, some t.enc, some (.list ((t.cols.map Col.name).map .str)), some (.tuple xs), none]) (m := mVar 10) (k := 3) (cols := t.cols.map Col.name) .lst rfl rfl (by omega) (Gd.some_names gd)
        refine ⟨[.str w, .str t.name, .str x, .str y, .tuple xs], ?_, ?_⟩
        · refine ev_run (d := .tuple [.str w, .str t.name, .str x, .str y, .tuple xs]) ?_ rfl
          refine ev_ifF test rfl (ev_set words (ev_set w3 ?_))
          refine ev_ifR q1 (ev_set t1 (ev_set nl ?_))
          refine ev_set (d := .tuple xs) (ev_cb (ev_cons (rest _ _ _ _ _ _) (ev_cons (fewer _ _ _ _ _ _) (ev_cons rfl (ev_cons rfl (ev_cons (ev_repl rfl hw) rfl))))) a1) ?_
          exact ev_ret (ev_tup (ev_cons rfl (ev_cons (ev_bin rfl rfl rfl) (ev_cons b1 (ev_cons b2 (ev_cons rfl rfl))))) (line_big (show 5 ≤ 100000 by decide)))
        · have : p = (p - 1) + 1 := by omega
          rw [this]
          exact .tuple (show 5 ≤ N by omega) (DxA.cons dw (DxA.cons gd.name.dx (DxA.cons (hc x hx).dx (DxA.cons (Gd.names gd y hy).dx (DxA.cons a2 DxA.nil)))))
      rw [decide_eq_false zh] at q1
      by_cases zn : w = "not"
      · rw [decide_eq_true zn] at q2
        obtain ⟨xs, a1, a2⟩ := ih (p - 1) (by omega) (by omega) (ps.drop 6) c cols ways (by omega) hw hn hc hne
        refine ⟨[.str w, .tuple xs], ?_, ?_⟩
        · refine ev_run (d := .tuple [.str w, .tuple xs]) ?_ rfl
          refine ev_ifF test rfl (ev_set words (ev_set w3 (ev_ifF q1 rfl ?_)))
          exact ev_ifR q2 (ev_ret (tup2 rfl (ev_cb (ev_cons (rest _ _ _ _ _ _) (ev_cons (fewer _ _ _ _ _ _) (ev_cons rfl (ev_cons rfl (ev_cons rfl rfl))))) a1)))
        · have : p = (p - 1) + 1 := by omega
          rw [this]
          exact Dx.two (by omega) dw a2
      rw [decide_eq_false zn] at q2
      have p2 : 2 < p := by
        rcases bin_mem hwd with q | q | ⟨_, q⟩
        · exact absurd q zn
        · exact absurd q zh
        · exact q
      have m0 := Int.emod_nonneg (ps.getD 1 0) (show ((p : Int) - 2) ≠ 0 by omega)
      have m1 := Int.emod_lt_of_pos (ps.getD 1 0) (show (0 : Int) < (p : Int) - 2 by omega)
      obtain ⟨lf, elf⟩ := Int.eq_ofNat_of_zero_le m0
      rw [elf] at m1
      have lv : mBin dAdd (mC (.int 1)) (mBin dMod (mBin dIx (mVar 0) (mC (.int 1))) (mBin dSub (mVar 1) (mC (.int 2)))) [some (.list (ps.map .int)), some (.int (p : Int)), some (.tuple (g.map Tab.enc)), some c, some (.str ways), some (.list ((binL p j).map .str)), some (.str w), none, none, none, none, none, none] = some (.int ((lf + 1 : Nat) : Int)) := by
        refine ev_bin (b := .int (ps.getD 1 0 % ((p : Int) - 2))) rfl (ev_bin (ev_bin rfl rfl (pick_get (k := 1) (by omega))) (ev_bin rfl rfl (dSub_int _ _)) (dMod_int (by omega))) ?_
        rw [dAdd_int, elf]
        refine congrArg (fun z => some (PyData.int z)) ?_
        omega
      have six : ∀ (x8 x9 x10 x11 x12 : Option PyData), mBin dAdd (mC (.int 6)) (mBin dMul (mC (.int 6)) (mVar 7)) [some (.list (ps.map .int)), some (.int (p : Int)), some (.tuple (g.map Tab.enc)), some c, some (.str ways), some (.list ((binL p j).map .str)), some (.str w), some (.int ((lf + 1 : Nat) : Int)), x8, x9, x10, x11, x12] = some (.int ((6 + 6 * (lf + 1) : Nat) : Int)) := fun _ _ _ _ _ => by
        refine ev_bin (b := .int (6 * ((lf + 1 : Nat) : Int))) rfl (ev_bin rfl rfl (dMul_int (cmulL (by decide) (by decide)))) ?_
        rw [dAdd_int]
        refine congrArg (fun z => some (PyData.int z)) ?_
        omega
      obtain ⟨xs, a1, a2⟩ := ih (lf + 1) (by omega) (by omega) ((ps.drop 6).take (6 + 6 * (lf + 1) - 6)) c cols ways (by rw [List.length_take, dl]; omega) hw hn hc hne
      obtain ⟨ys, b1, b2⟩ := ih (p - 1 - (lf + 1)) (by omega) (by omega) (ps.drop (6 + 6 * (lf + 1))) c cols ways (by rw [List.length_drop]; omega) hw hn hc hne
      refine ⟨[.str w, .tuple xs, .tuple ys], ?_, ?_⟩
      · refine ev_run (d := .tuple [.str w, .tuple xs, .tuple ys]) ?_ rfl
        refine ev_ifF test rfl (ev_set words (ev_set w3 (ev_ifF q1 rfl (ev_ifF q2 rfl (ev_set lv ?_)))))
        refine ev_set (d := .tuple xs) (ev_cb (ev_cons (ev_sl rfl (ev_part rfl) (ev_part (six _ _ _ _ _)) (slice_ints (a := 6) (b := 6 + 6 * (lf + 1)) rfl rfl)) (ev_cons rfl (ev_cons rfl (ev_cons rfl (ev_cons rfl rfl))))) a1) ?_
        have lst : mBin dSub (mBin dSub (mVar 1) (mC (.int 1))) (mVar 7) [some (.list (ps.map .int)), some (.int (p : Int)), some (.tuple (g.map Tab.enc)), some c, some (.str ways), some (.list ((binL p j).map .str)), some (.str w), some (.int ((lf + 1 : Nat) : Int)), some (.tuple xs), none, none, none, none] = some (.int ((p - 1 - (lf + 1) : Nat) : Int)) := by
          refine ev_bin (fewer _ _ _ _ _ _) rfl ?_
          rw [dSub_int]
          refine congrArg (fun z => some (PyData.int z)) ?_
          omega
        exact ev_ret (ev_tup (ev_cons rfl (ev_cons rfl (ev_cons (ev_cb (ev_cons (ev_sl rfl (ev_part (six _ _ _ _ _)) rfl (slice_ints_from (a := 6 + 6 * (lf + 1)) rfl)) (ev_cons lst (ev_cons rfl (ev_cons rfl (ev_cons rfl rfl))))) b1) rfl))) (line_big (show 3 ≤ 100000 by decide)))
      · have : p = (p - 1) + 1 := by omega
        rw [this]
        exact .tuple (show 3 ≤ N by omega) (DxA.cons dw (DxA.cons (a2.mono (Nat.le_refl _) (by omega)) (DxA.cons (b2.mono (Nat.le_refl _) (by omega)) DxA.nil)))
theorem new_names_eq {ps : List Int} {taken : List Str} {m : Nat} (hm : m ≤ 3) (hp : 8 ≤ ps.length) (ht : ∀ t ∈ taken, SeqAt.shaped (.str t) = true) (hl : taken.length ≤ 10) : ∃ fs : List Str, fm_law_new_names [.list (ps.map .int), .int (m : Int), .list (taken.map .str)] = some (.tuple (fs.map .str)) ∧ NmA fs ∧ fs.length = m := by
  have loop : ∃ e', loopD (gB 4) lb1_law_new_names (rangeD 0 m) [some (.list (ps.map .int)), some (.int (m : Int)), some (.list (taken.map .str)), some (.list []), none] = some (.nx e') ∧ ∃ (fs : List Str) (z4 : Option PyData), e' = [some (.list (ps.map .int)), some (.int (m : Int)), some (.list (taken.map .str)), some (.list (fs.map .str)), z4] ∧ fs.length = m ∧ NmA fs := by
    refine loop_range (fun i e => ∃ (fs : List Str) (z4 : Option PyData), e = [some (.list (ps.map .int)), some (.int (m : Int)), some (.list (taken.map .str)), some (.list (fs.map .str)), z4] ∧ fs.length = i ∧ NmA fs) ⟨[], none, rfl, rfl, fun _ h => nomatch h⟩ fun i e hi he => ?_
    obtain ⟨fs, z4, rfl, h1, h2⟩ := he
    obtain ⟨w, n1, n2, _⟩ := name_eq (ps := ps.drop i) (taken := taken ++ fs) (by rw [List.length_drop]; omega) (fun t hh => by
      rcases List.mem_append.mp hh with q | q
      · exact ht t q
      · exact (h2 t q).shaped) (by rw [List.length_append]; omega)
    rw [Int.zero_add]
    refine ⟨_, [some (.list (ps.map .int)), some (.int (m : Int)), some (.list (taken.map .str)), some (.list ((fs ++ [w]).map .str)), some (.int (i : Int))], rfl, .inl ?_, fs ++ [w], _, rfl, by rw [List.length_append, h1]; rfl, fun x hx => ?_⟩
    · unfold lb1_law_new_names
      refine (ev_app (ds := fs.map .str) (d := .str w) rfl (ev_cb (ev_cons (ev_sl rfl (ev_part rfl) rfl (slice_ints_from (a := i) rfl)) (ev_cons (d := .list ((taken ++ fs).map .str)) (ev_bin rfl rfl ?_) rfl)) n1) (line_lt (by rw [List.length_map]; omega))).trans ?_
      · rw [dAdd_list (by rw [List.length_map, List.length_map]; omega), List.map_append]
      · rw [List.map_append]
        rfl
    · rcases List.mem_append.mp hx with q | q
      · exact h2 x q
      · rw [List.mem_singleton.mp q]
        exact n2
  obtain ⟨e', l1, fs, z4, rfl, f1, f2⟩ := loop
  refine ⟨fs, ?_, f2, f1⟩
  unfold fm_law_new_names mb_law_new_names
  refine ev_run (d := .tuple (fs.map .str)) (ev_set lst0 (ev_for (ds := rangeD 0 m) (ev_rng (ev_cons rfl rfl) ?_) l1 (ev_ret (ev_cb (ev_cons rfl rfl) rfl)))) rfl
  rw [rng1_ok (by omega) (by omega), Int.toNat_natCast]
theorem some_columns_eq {ps : List Int} {g : List Tab} (hp : 12 ≤ ps.length) (hg : ∀ t ∈ g, t.Gd) (g1 : g ≠ []) : ∃ cols : List Str, fm_law_some_columns [.list (ps.map .int), .tuple (g.map Tab.enc)] = some (.tuple (cols.map .str)) ∧ NmA cols ∧ cols ≠ [] := by
  obtain ⟨te, hte, t1⟩ := pick_any (env := [some (.list (ps.map .int)), some (.tuple (g.map Tab.enc)), none, none]) (m := mVar 1) (k := 0) (ds := g.map Tab.enc) (ps := ps) (.inr rfl) rfl rfl (by omega) (by simpa using g1)
  obtain ⟨t, ht, rfl⟩ := List.mem_map.mp hte
  have gd := hg t ht
  have few := gd.few
  have m0 := Int.emod_nonneg (ps.getD 6 0) (show (4 : Int) ≠ 0 by decide)
  have m1 := Int.emod_lt_of_pos (ps.getD 6 0) (show (0 : Int) < 4 by decide)
  obtain ⟨j, ej⟩ := Int.eq_ofNat_of_zero_le m0
  obtain ⟨fs, n1, n2, n3⟩ := new_names_eq (ps := ps.drop 1) (taken := t.cols.map Col.name) (m := j) (by omega) (by rw [List.length_drop]; omega) (Gd.names gd).shaped (by rw [List.length_map]; omega)
  refine ⟨t.cols.map Col.name ++ fs, ?_, fun x hx => ?_, fun z => Gd.some_names gd (List.append_eq_nil_iff.mp z).1⟩
  · unfold fm_law_some_columns mb_law_some_columns
    refine ev_run (d := .tuple ((t.cols.map Col.name ++ fs).map .str)) (ev_set (d := .list ((t.cols.map Col.name).map .str)) (names_lc gd t1 fun _ => rfl) (ev_ret ?_)) rfl
    refine ev_bin (a := .tuple ((t.cols.map Col.name).map .str)) (b := .tuple (fs.map .str)) (ev_cb (ev_cons rfl rfl) rfl) (ev_cb (ev_cons (ev_sl rfl (ev_part rfl) rfl (slice_ints_from (a := 1) rfl)) (ev_cons (d := .int (j : Int)) (ev_bin (ev_bin rfl rfl (pick_get (k := 6) (by omega))) rfl ?_) (ev_cons rfl rfl))) n1) ?_
    · rw [dMod_int (by decide), ej]
    · rw [dAdd_tup (by rw [List.length_map, List.length_map, List.length_map]; omega), List.map_append]
  · rcases List.mem_append.mp hx with q | q
    · exact Gd.names gd x q
    · exact n2 x q
/-! ### the law -/
theorem dNe_same {x : Str} (h : SeqAt.shaped (.str x) = true) : dNe (.str x) (.str x) = some (.bool false) := by
  rw [dNe, if_pos ⟨h, h⟩, PyData.eqv]
  simp
theorem repr_same (b : Bool) : ∃ x, bRepr [.bool b] = some x ∧ dNe x x = some (.bool false) := by
  cases b
  · exact ⟨.str "False", rfl, dNe_same (by decide +kernel)⟩
  · exact ⟨.str "True", rfl, dNe_same (by decide +kernel)⟩
theorem one_thing {N k : Nat} {d : PyData} {g : List Tab} {c : List Str} (hg : ∀ t ∈ g, t.Gd) (hc : NmA c) (h : Dx N k d) (hk : k < 20) (x0 x1 x2 x5 x6 x7 x8 x9 x10 x12 : Option PyData) : lb1_law [x0, x1, x2, some (.tuple (g.map Tab.enc)), some (.tuple (c.map .str)), x5, x6, x7, x8, x9, x10, some d, x12] = some (.nx [x0, x1, x2, some (.tuple (g.map Tab.enc)), some (.tuple (c.map .str)), x5, x6, x7, x8, x9, x10, some d, x12]) := by
  obtain ⟨x, e1, e2⟩ := repr_same (condB (nodes g 20 c d false))
  unfold lb1_law
  exact ev_if1F (ev_tst (ev_bin (ev_cb (ev_cons (ev_cb (ev_cons rfl (ev_cons rfl (ev_cons rfl rfl))) (is_condition_eq hg hc.shaped h (by omega) hk)) rfl) e1) (ev_cb (ev_cons (ev_cb (ev_cons rfl (ev_cons rfl (ev_cons rfl rfl))) (law_is_condition_eq hg hc.shaped h hk)) rfl) e1) e2)) rfl
theorem all_things {N k : Nat} {ds : List PyData} {g : List Tab} {c : List Str} (hg : ∀ t ∈ g, t.Gd) (hc : NmA c) (h : DxA N k ds) (hk : k < 20) (x0 x1 x2 x5 x6 x7 x8 x9 x10 x11 x12 : Option PyData) : ∃ e', loopD (gB 11) lb1_law ds [x0, x1, x2, some (.tuple (g.map Tab.enc)), some (.tuple (c.map .str)), x5, x6, x7, x8, x9, x10, x11, x12] = some (.nx e') ∧ ∃ z11, e' = [x0, x1, x2, some (.tuple (g.map Tab.enc)), some (.tuple (c.map .str)), x5, x6, x7, x8, x9, x10, z11, x12] := by
  refine loop_inv (fun _ e => ∃ z11, e = [x0, x1, x2, some (.tuple (g.map Tab.enc)), some (.tuple (c.map .str)), x5, x6, x7, x8, x9, x10, z11, x12]) ⟨x11, rfl⟩ fun i d e hd hi => ?_
  obtain ⟨z11, rfl⟩ := hi
  exact ⟨_, _, rfl, .inl (one_thing hg hc (h d (List.mem_of_getElem? hd)) hk x0 x1 x2 x5 x6 x7 x8 x9 x10 x12), _, rfl⟩
theorem pick_any2 {env : En} {m : En → Option PyData} {s : PyData} {ds : List PyData} {ps : List Int} {i k : Nat} (hs : s = .list ds ∨ s = .tuple ds) (hm : m env = some s) (hv : mVar i env = some (.list (ps.map .int))) (hk : k < ps.length) (hne : ds ≠ []) :
    ∃ x ∈ ds, mBin dIx m (mBin dMod (mBin dIx (mVar i) (mC (.int (k : Int)))) (mCB bLen (mCons m mNil))) env = some x := by
  have pos := List.length_pos_iff.mpr hne
  have m0 := Int.emod_nonneg (ps.getD k 0) (show ((ds.length : Nat) : Int) ≠ 0 by omega)
  have m1 := Int.emod_lt_of_pos (ps.getD k 0) (show (0 : Int) < ((ds.length : Nat) : Int) by omega)
  obtain ⟨x, hx, e⟩ := atI_in (xs := ds) m0 m1
  refine ⟨x, hx, ?_⟩
  have ln : mCB bLen (mCons m mNil) env = some (.int ((ds.length : Nat) : Int)) := by
    refine ev_cb (ev_cons hm rfl) ?_
    rcases hs with rfl | rfl <;> rfl
  refine ev_bin hm (ev_bin (ev_bin hv rfl (pick_get hk)) ln (dMod_int (by omega))) ?_
  rcases hs with rfl | rfl
  · exact e
  · exact e
theorem at_last {xs : List PyData} (h : xs ≠ []) : ∃ x ∈ xs, dIx (.tuple xs) (.int (-1)) = some x := by
  rcases List.eq_nil_or_concat xs with rfl | ⟨ys, y, rfl⟩
  · exact absurd rfl h
  · rw [List.concat_eq_append]
    exact ⟨y, List.mem_append_right _ List.mem_cons_self, atI_last ys y⟩
theorem one_cell (x0 z2 z3 z4 z5 z6 z7 z8 z9 z10 z11 : Option PyData) (c : Int) : ∃ e', lb2_law [x0, some (.int c), z2, z3, z4, z5, z6, z7, z8, z9, z10, z11, none] = some (.nx e') ∧ ∃ z1 z2 z3 z4 z5 z6 z7 z8 z9 z10 z11, e' = [x0, z1, z2, z3, z4, z5, z6, z7, z8, z9, z10, z11, none] := by
  obtain ⟨ps, d1, d2, d3⟩ := draws_eq c 420 (by decide)
  obtain ⟨ts, g1, g2, g3, g4⟩ := ground_eq (ps := ps) (top := 1000) (by omega) d3 (by decide) (by decide)
  generalize hg : ts.mergeSort tabLe = g at g1
  have hlen : g.length = ts.length := by rw [← hg, List.length_mergeSort]
  have gd : ∀ t ∈ g, t.Gd := fun t ht => by
    rw [← hg] at ht
    exact g2.each t (List.mem_mergeSort.mp ht)
  have gne : g ≠ [] := fun z => by
    rw [z] at hlen
    simp at hlen
    omega
  obtain ⟨cols, c1, c2, c3⟩ := some_columns_eq (ps := ps.drop 150) (by rw [List.length_drop]; omega) gd gne
  have n0 := Int.emod_nonneg (ps.getD 169 0) (show (9 : Int) ≠ 0 by decide)
  have n1 := Int.emod_lt_of_pos (ps.getD 169 0) (show (0 : Int) < 9 by decide)
  obtain ⟨p, ep⟩ := Int.eq_ofNat_of_zero_le n0
  have k0 := Int.emod_nonneg (ps.getD 301 0) (show (8 : Int) ≠ 0 by decide)
  have k1 := Int.emod_lt_of_pos (ps.getD 301 0) (show (0 : Int) < 8 by decide)
  obtain ⟨q, eq⟩ := Int.eq_ofNat_of_zero_le k0
  obtain ⟨xs, cd1, cd2⟩ := condition_eq (N := 8) (by decide) gd gne 11 (1 + p) (by omega) (by omega) (by omega) (ps.drop 170) (.tuple (cols.map .str)) cols "lmh" (by rw [List.length_drop]; omega) (.inl rfl) .tup c2 c3
  have cd3 : Dx 8 9 (.tuple xs) := cd2.mono (Nat.le_refl _) (by omega)
  obtain ⟨o1, s1, m1⟩ := spoilt_eq 49 (ps := ps.drop 240) (by rw [List.length_drop]; omega) (by rw [List.length_drop]; omega) (by decide) (by decide) cd3
  obtain ⟨o2, s2, m2⟩ := spoilt_eq 49 (ps := ps.drop 280) (by rw [List.length_drop]; omega) (by rw [List.length_drop]; omega) (by decide) (by decide) m1
  obtain ⟨te, hte, t1⟩ := pick_any2 (env := [x0, some (.int c), some (.list (ps.map .int)), some (.tuple (g.map Tab.enc)), some (.tuple (cols.map .str)), some (.tuple xs), some o1, z7, z8, z9, z10, z11, none]) (m := mVar 3) (i := 2) (k := 300) (ds := g.map Tab.enc) (ps := ps) (.inr rfl) rfl rfl (by omega) (by simpa using gne)
  obtain ⟨t, ht, rfl⟩ := List.mem_map.mp hte
  have td := gd t ht
  obtain ⟨ys, in1, in2⟩ := condition_eq (N := 8) (by decide) gd gne 11 (1 + q) (by omega) (by omega) (by omega) (ps.drop 310) (.list ((t.cols.map Col.name).map .str)) (t.cols.map Col.name) "lmh" (by rw [List.length_drop]; omega) (.inl rfl) .lst (Gd.names td) (Gd.some_names td)
  have in3 : Dx 8 8 (.tuple ys) := in2.mono (Nat.le_refl _) (by omega)
  obtain ⟨cn, rcols, ec⟩ : ∃ cn rcols, cols = cn :: rcols := by
    cases cols with
    | nil => exact absurd rfl c3
    | cons a b => exact ⟨a, b, rfl⟩
  have cnd : ∀ {k : Nat}, Dx 8 k (.str cn) := (c2 cn (by rw [ec]; exact List.mem_cons_self)).dx
  obtain ⟨le, hle, l1⟩ := at_last (xs := t.cols.map Col.enc) (by
    have := td.some
    intro z
    rw [List.map_eq_nil_iff] at z
    rw [z] at this
    cases this)
  obtain ⟨lc, hlc, rfl⟩ := List.mem_map.mp hle
  have lnd : ∀ {k : Nat}, Dx 8 k (.str lc.name) := (td.cols.1 lc hlc).2.dx
  generalize hh : PyData.tuple [.str "has", .str t.name, .str cn, .str lc.name, .tuple ys] = held
  have hd3 : Dx 8 9 held := by
    rw [← hh]
    exact .tuple (show 5 ≤ 8 by decide) (DxA.cons (Dx.txt (by decide +kernel)) (DxA.cons td.name.dx (DxA.cons cnd (DxA.cons lnd (DxA.cons in3 DxA.nil)))))
  obtain ⟨o3, s3, m3⟩ := spoilt_eq 49 (ps := ps.drop 370) (by rw [List.length_drop]; omega) (by rw [List.length_drop]; omega) (by decide) (by decide) hd3
  have big : ∀ {N k : Nat} {d : PyData}, Dx N k d → N ≤ 12 → k ≤ 14 → Dx 12 14 d := fun h h1 h2 => h.mono h1 h2
  have dl : Dx 12 14 (.list xs) := by
    cases cd3 with
    | tuple l hx => exact (Dx.list l hx).mono (by decide) (by decide)
  have dn : Dx 12 14 (.tuple [.str "not", .tuple xs]) := Dx.two (by decide) (Dx.txt (by decide +kernel)) (cd3.mono (by decide) (by decide))
  have da : Dx 12 14 (.tuple [.str "and", .tuple xs, o1]) := .tuple (show 3 ≤ 12 by decide) (DxA.cons (Dx.txt (by decide +kernel)) (DxA.cons (cd3.mono (by decide) (by decide)) (DxA.cons (m1.mono (by decide) (by decide)) DxA.nil)))
  have dyes : Dx 12 13 (.tuple [.str "yes"]) := Dx.one (k := 12) (by decide) (Dx.txt (by decide +kernel))
  have dor : Dx 12 14 (.tuple [.str "or", held, .tuple [.str "yes"]]) := .tuple (show 3 ≤ 12 by decide) (DxA.cons (Dx.txt (by decide +kernel)) (DxA.cons (hd3.mono (by decide) (by decide)) (DxA.cons dyes DxA.nil)))
  have all_ : DxA 12 14 ([.tuple xs, o1, o2, .tuple [.str "not", .tuple xs], .tuple [.str "and", .tuple xs, o1]] ++ [held, .tuple [.str "or", held, .tuple [.str "yes"]], o3, .list xs]) := .app (.cons (big cd3 (by decide) (by decide)) (.cons (big m1 (by decide) (by decide)) (.cons (big m2 (by decide) (by decide)) (.cons dn (.cons da .nil))))) (.cons (big hd3 (by decide) (by decide)) (.cons dor (.cons (big m3 (by decide) (by decide)) (.cons dl .nil))))
  obtain ⟨e', lp, z11', rfl⟩ := all_things gd c2 all_ (by decide) x0 (some (.int c)) (some (.list (ps.map .int))) (some (.tuple xs)) (some o1) (some t.enc) (some (.tuple ys)) (some held) (some (.list [.tuple xs, o1, o2, .tuple [.str "not", .tuple xs], .tuple [.str "and", .tuple xs, o1]])) z11 none
  refine ⟨[x0, some (.int c), some (.list (ps.map .int)), some (.tuple (g.map Tab.enc)), some (.tuple (cols.map .str)), some (.tuple xs), some o1, some t.enc, some (.tuple ys), some held, some (.list [.tuple xs, o1, o2, .tuple [.str "not", .tuple xs], .tuple [.str "and", .tuple xs, o1]]), z11', none], ?_, _, _, _, _, _, _, _, _, _, _, _, rfl⟩
  unfold lb2_law
  refine ev_set (d := .list (ps.map .int)) (ev_cb (ev_cons rfl (ev_cons rfl (ev_cons rfl rfl))) d1) ?_
  refine ev_set (d := .tuple (g.map Tab.enc)) (ev_cb (ev_cons rfl (ev_cons rfl rfl)) g1) ?_
  refine ev_set (d := .tuple (cols.map .str)) (ev_cb (ev_cons (ev_sl rfl (ev_part rfl) rfl (slice_ints_from (a := 150) rfl)) (ev_cons rfl rfl)) c1) ?_
  have pv1 : mBin dAdd (mC (.int 1)) (mBin dMod (mBin dIx (mVar 2) (mC (.int 169))) (mC (.int 9))) [x0, some (.int c), some (.list (ps.map .int)), some (.tuple (g.map Tab.enc)), some (.tuple (cols.map .str)), z5, z6, z7, z8, z9, z10, z11, none] = some (.int ((1 + p : Nat) : Int)) := by
    refine ev_bin (b := .int (ps.getD 169 0 % 9)) rfl (ev_bin (ev_bin rfl rfl (pick_get (k := 169) (by omega))) rfl (dMod_int (by decide))) ?_
    rw [dAdd_int, ep]
    refine congrArg (fun z => some (PyData.int z)) ?_
    omega
  refine ev_set (d := .tuple xs) (ev_cb (ev_cons (ev_sl rfl (ev_part rfl) rfl (slice_ints_from (a := 170) rfl)) (ev_cons pv1 (ev_cons rfl (ev_cons rfl (ev_cons rfl rfl))))) cd1) ?_
  refine ev_set (d := o1) (ev_cb (ev_cons rfl (ev_cons (ev_sl rfl (ev_part rfl) rfl (slice_ints_from (a := 240) rfl)) rfl)) s1) ?_
  refine ev_set (d := t.enc) t1 ?_
  have pv2 : mBin dAdd (mC (.int 1)) (mBin dMod (mBin dIx (mVar 2) (mC (.int 301))) (mC (.int 8))) [x0, some (.int c), some (.list (ps.map .int)), some (.tuple (g.map Tab.enc)), some (.tuple (cols.map .str)), some (.tuple xs), some o1, some t.enc, z8, z9, z10, z11, none] = some (.int ((1 + q : Nat) : Int)) := by
    refine ev_bin (b := .int (ps.getD 301 0 % 8)) rfl (ev_bin (ev_bin rfl rfl (pick_get (k := 301) (by omega))) rfl (dMod_int (by decide))) ?_
    rw [dAdd_int, eq]
    refine congrArg (fun z => some (PyData.int z)) ?_
    omega
  have nl : mLc [12] (mIt (mBin dIx (mVar 7) (mC (.int 2)))) (gB 12) mYes le1_law [x0, some (.int c), some (.list (ps.map .int)), some (.tuple (g.map Tab.enc)), some (.tuple (cols.map .str)), some (.tuple xs), some o1, some t.enc, z8, z9, z10, z11, none] = some (.list ((t.cols.map Col.name).map .str)) := names_lc td rfl fun _ => rfl
  refine ev_set (d := .tuple ys) (ev_cb (ev_cons (ev_sl rfl (ev_part rfl) rfl (slice_ints_from (a := 310) rfl)) (ev_cons pv2 (ev_cons rfl (ev_cons nl (ev_cons rfl rfl))))) in1) ?_
  have h1 : mBin dIx (mVar 7) (mC (.int 0)) [x0, some (.int c), some (.list (ps.map .int)), some (.tuple (g.map Tab.enc)), some (.tuple (cols.map .str)), some (.tuple xs), some o1, some t.enc, some (.tuple ys), z9, z10, z11, none] = some (.str t.name) := ev_bin rfl rfl rfl
  have h2 : mBin dIx (mVar 4) (mC (.int 0)) [x0, some (.int c), some (.list (ps.map .int)), some (.tuple (g.map Tab.enc)), some (.tuple (cols.map .str)), some (.tuple xs), some o1, some t.enc, some (.tuple ys), z9, z10, z11, none] = some (.str cn) := by
    refine ev_bin rfl rfl ?_
    rw [ec]
    exact dIxT (i := 0) rfl
  have h3 : mBin dIx (mBin dIx (mBin dIx (mVar 7) (mC (.int 2))) (mUn dNeg (mC (.int 1)))) (mC (.int 0)) [x0, some (.int c), some (.list (ps.map .int)), some (.tuple (g.map Tab.enc)), some (.tuple (cols.map .str)), some (.tuple xs), some o1, some t.enc, some (.tuple ys), z9, z10, z11, none] = some (.str lc.name) := ev_bin (a := lc.enc) (ev_bin (a := .tuple (t.cols.map Col.enc)) (ev_bin rfl rfl rfl) (ev_un rfl rfl) l1) rfl rfl
  refine ev_set (d := held) (by
    rw [← hh]
    exact ev_tup (ev_cons rfl (ev_cons h1 (ev_cons h2 (ev_cons h3 (ev_cons rfl rfl))))) (line_big (show 5 ≤ 100000 by decide))) ?_
  refine ev_set (d := .list [.tuple xs, o1, o2, .tuple [.str "not", .tuple xs], .tuple [.str "and", .tuple xs, o1]]) (ev_lst (ev_cons rfl (ev_cons rfl (ev_cons (ev_cb (ev_cons rfl (ev_cons (ev_sl rfl (ev_part rfl) rfl (slice_ints_from (a := 280) rfl)) rfl)) s2) (ev_cons (tup2 rfl rfl) (ev_cons (ev_tup (ev_cons rfl (ev_cons rfl (ev_cons rfl rfl))) (line_big (show 3 ≤ 100000 by decide))) rfl))))) (line_big (show 5 ≤ 100000 by decide))) ?_
  have cat : dAdd (.list [.tuple xs, o1, o2, .tuple [.str "not", .tuple xs], .tuple [.str "and", .tuple xs, o1]]) (.list [held, .tuple [.str "or", held, .tuple [.str "yes"]], o3, .list xs]) = some (.list ([.tuple xs, o1, o2, .tuple [.str "not", .tuple xs], .tuple [.str "and", .tuple xs, o1]] ++ [held, .tuple [.str "or", held, .tuple [.str "yes"]], o3, .list xs])) := dAdd_list (show 5 + 4 ≤ 100000 by decide)
  generalize [PyData.tuple xs, o1, o2, PyData.tuple [.str "not", .tuple xs], PyData.tuple [.str "and", .tuple xs, o1]] = la at lp cat ⊢
  have lb : mLst (mCons (mVar 9) (mCons (mTup (mCons (mC (.str "or")) (mCons (mVar 9) (mCons (mTup (mCons (mC (.str "yes")) mNil)) mNil)))) (mCons (mCB (fm_law_spoilt 50) (mCons (mVar 9) (mCons (mSl (mVar 2) (mPart (mC (.int 370))) mNoPart) mNil))) (mCons (mCB bList (mCons (mVar 5) mNil)) mNil)))) [x0, some (.int c), some (.list (ps.map .int)), some (.tuple (g.map Tab.enc)), some (.tuple (cols.map .str)), some (.tuple xs), some o1, some t.enc, some (.tuple ys), some held, some (.list la), z11, none] = some (.list [held, .tuple [.str "or", held, .tuple [.str "yes"]], o3, .list xs]) := by
    refine ev_lst (ev_cons rfl (ev_cons (ev_tup (ev_cons rfl (ev_cons rfl (ev_cons (tup1 rfl) rfl))) (line_big (show 3 ≤ 100000 by decide))) (ev_cons (ev_cb (ev_cons rfl (ev_cons (ev_sl rfl (ev_part rfl) rfl (slice_ints_from (a := 370) rfl)) rfl)) s3) (ev_cons (ev_cb (ev_cons rfl rfl) rfl) rfl)))) (line_big (show 4 ≤ 100000 by decide))
  generalize [held, PyData.tuple [.str "or", held, .tuple [.str "yes"]], o3, PyData.list xs] = lc2 at lp cat lb ⊢
  exact ev_for1 (ev_it (ev_bin rfl lb cat) rfl) lp rfl
theorem law_true : ∀ ns : List Int, ns.length ≤ 63 → fm_law [.list (ns.map .int)] = some (.bool true) := fun ns hl => by
  generalize hc : (ns.getD 0 0 :: ((ns.drop 1).take 9)) = cells
  have loop : ∃ e', loopD (gB 1) lb2_law (cells.map .int) [some (.list (ns.map .int)), none, none, none, none, none, none, none, none, none, none, none, none] = some (.nx e') ∧ ∃ z1 z2 z3 z4 z5 z6 z7 z8 z9 z10 z11, e' = [some (.list (ns.map .int)), z1, z2, z3, z4, z5, z6, z7, z8, z9, z10, z11, none] := by
    refine loop_inv (fun _ e => ∃ z1 z2 z3 z4 z5 z6 z7 z8 z9 z10 z11, e = [some (.list (ns.map .int)), z1, z2, z3, z4, z5, z6, z7, z8, z9, z10, z11, none]) ⟨none, none, none, none, none, none, none, none, none, none, none, rfl⟩ fun i d e hd hi => ?_
    obtain ⟨z1, z2, z3, z4, z5, z6, z7, z8, z9, z10, z11, rfl⟩ := hi
    rw [List.getElem?_map] at hd
    cases hx : cells[i]? with
    | none =>
      rw [hx] at hd
      cases hd
    | some c =>
      rw [hx] at hd
      cases hd
      obtain ⟨e', h1, h2⟩ := one_cell (some (.list (ns.map .int))) z2 z3 z4 z5 z6 z7 z8 z9 z10 z11 c
      exact ⟨_, e', rfl, .inl h1, h2⟩
  obtain ⟨e', h1, z1, z2, z3, z4, z5, z6, z7, z8, z9, z10, z11, rfl⟩ := loop
  unfold fm_law mb_law
  refine ev_run (d := .bool true) ?_ rfl
  refine ev_for (ds := cells.map .int) (ev_it (d := .list (cells.map .int)) (ev_bin (a := .list [.int (ns.getD 0 0)]) (b := .list (((ns.drop 1).take 9).map .int)) (lst1 (ev_cb (ev_cons rfl (ev_cons rfl rfl)) (cell_eq ns hl))) (ev_sl rfl (ev_part (i := 1) rfl) (ev_part (i := 10) rfl) ?_) ?_) rfl) h1 (ev_ret rfl)
  · exact slice_ints (a := 1) (b := 10) rfl rfl
  · rw [dAdd_list (by rw [List.length_map, List.length_take]; simp; omega), ← hc]
    rfl

end Rv
namespace Rv
open PySem L2 PySem.Spec PyProof.Rows
/-! what the top has left -/
theorem all_mk {l : PySem.W.OpenLaw} {w : World} {K : PySem.W.Frag} {h : Heap} {mg : Str → Option Value} {fa : Addr} (X : K.In h) (G : h.Ns mainGlobals mg) (hfa : mg "law" = some (.ref fa))
    {q_FORMS : Addr} {n_FORMS : Nat} {h_FORMS_0 : Int} {k_FORMS_0 : Tok} {q_FORMS_0 : Addr} {o_FORMS_0 : Option Addr} {n_FORMS_0 : Nat} {s_FORMS_0 : Array (Option Value)} {h_FORMS_1 : Int} {k_FORMS_1 : Tok} {q_FORMS_1 : Addr} {o_FORMS_1 : Option Addr} {n_FORMS_1 : Nat} {s_FORMS_1 : Array (Option Value)} {t_FORMS_1_0 t_FORMS_1_1 : Tok} {h_FORMS_2 : Int} {k_FORMS_2 : Tok} {q_FORMS_2 : Addr} {o_FORMS_2 : Option Addr} {n_FORMS_2 : Nat} {s_FORMS_2 : Array (Option Value)} {t_FORMS_2_0 t_FORMS_2_1 : Tok} {h_FORMS_3 : Int} {k_FORMS_3 : Tok} {q_FORMS_3 : Addr} {o_FORMS_3 : Option Addr} {n_FORMS_3 : Nat} {s_FORMS_3 : Array (Option Value)} {t_FORMS_3_0 t_FORMS_3_1 : Tok} {h_FORMS_4 : Int} {k_FORMS_4 : Tok} {q_FORMS_4 : Addr} {o_FORMS_4 : Option Addr} {n_FORMS_4 : Nat} {s_FORMS_4 : Array (Option Value)} {t_FORMS_4_0 : Tok} {h_FORMS_5 : Int} {k_FORMS_5 : Tok} {q_FORMS_5 : Addr} {o_FORMS_5 : Option Addr} {n_FORMS_5 : Nat} {s_FORMS_5 : Array (Option Value)} {t_FORMS_5_0 : Tok} {h_FORMS_6 : Int} {k_FORMS_6 : Tok} {q_FORMS_6 : Addr} {o_FORMS_6 : Option Addr} {n_FORMS_6 : Nat} {s_FORMS_6 : Array (Option Value)} {t_FORMS_6_0 : Tok} {h_FORMS_7 : Int} {k_FORMS_7 : Tok} {q_FORMS_7 : Addr} {o_FORMS_7 : Option Addr} {n_FORMS_7 : Nat} {s_FORMS_7 : Array (Option Value)} {t_FORMS_7_0 t_FORMS_7_1 t_FORMS_7_2 t_FORMS_7_3 : Tok} {h_FORMS_8 : Int} {k_FORMS_8 : Tok} {q_FORMS_8 : Addr} {o_FORMS_8 : Option Addr} {n_FORMS_8 : Nat} {s_FORMS_8 : Array (Option Value)} {t_FORMS_8_0 : Tok} {h_FORMS_9 : Int} {k_FORMS_9 : Tok} {q_FORMS_9 : Addr} {o_FORMS_9 : Option Addr} {n_FORMS_9 : Nat} {s_FORMS_9 : Array (Option Value)} {t_FORMS_9_0 t_FORMS_9_1 : Tok} {h_FORMS_10 : Int} {k_FORMS_10 : Tok} {q_FORMS_10 : Addr} {o_FORMS_10 : Option Addr} {n_FORMS_10 : Nat} {s_FORMS_10 : Array (Option Value)} {t_FORMS_10_0 t_FORMS_10_1 : Tok} {q_MOST_VALUES : Addr} {n_MOST_VALUES : Nat} {h_MOST_VALUES_0 : Int} {k_MOST_VALUES_0 : Tok} {t_MOST_VALUES_0 : Tok} {h_MOST_VALUES_1 : Int} {k_MOST_VALUES_1 : Tok} {t_MOST_VALUES_1 : Tok} {t_MOST_CONDITIONS : Tok} {f_is_whole : Addr} {od_is_whole an_is_whole : Option Addr} {sl_is_whole : Array (Option Value)} {oc_is_whole kV_is_whole dc_is_whole pm_is_whole cd_is_whole ct_is_whole : Value} {f_is_whole_within : Addr} {od_is_whole_within an_is_whole_within : Option Addr} {sl_is_whole_within : Array (Option Value)} {oc_is_whole_within kV_is_whole_within dc_is_whole_within pm_is_whole_within cd_is_whole_within ct_is_whole_within : Value} {f_word_of : Addr} {od_word_of an_word_of : Option Addr} {sl_word_of : Array (Option Value)} {oc_word_of kV_word_of dc_word_of pm_word_of cd_word_of ct_word_of : Value} {f_find_table : Addr} {od_find_table an_find_table : Option Addr} {sl_find_table : Array (Option Value)} {oc_find_table kV_find_table dc_find_table pm_find_table cd_find_table ct_find_table : Value} {f_column_names : Addr} {od_column_names an_column_names : Option Addr} {sl_column_names : Array (Option Value)} {oc_column_names kV_column_names dc_column_names pm_column_names cd_column_names ct_column_names : Value} {f_has_form : Addr} {od_has_form an_has_form : Option Addr} {sl_has_form : Array (Option Value)} {oc_has_form kV_has_form dc_has_form pm_has_form cd_has_form ct_has_form : Value} {f_names_table : Addr} {od_names_table an_names_table : Option Addr} {sl_names_table : Array (Option Value)} {oc_names_table kV_names_table dc_names_table pm_names_table cd_names_table ct_names_table : Value} {f_is_part : Addr} {od_is_part an_is_part : Option Addr} {sl_is_part : Array (Option Value)} {oc_is_part kV_is_part dc_is_part pm_is_part cd_is_part ct_is_part : Value} {f_conditions_here : Addr} {od_conditions_here an_conditions_here : Option Addr} {sl_conditions_here : Array (Option Value)} {oc_conditions_here kV_conditions_here dc_conditions_here pm_conditions_here cd_conditions_here ct_conditions_here : Value} {f_parts_within : Addr} {od_parts_within an_parts_within : Option Addr} {sl_parts_within : Array (Option Value)} {oc_parts_within kV_parts_within dc_parts_within pm_parts_within cd_parts_within ct_parts_within : Value} {f_all_parts : Addr} {od_all_parts an_all_parts : Option Addr} {sl_all_parts : Array (Option Value)} {oc_all_parts kV_all_parts dc_all_parts pm_all_parts cd_all_parts ct_all_parts : Value} {f_bounded_parts : Addr} {od_bounded_parts an_bounded_parts : Option Addr} {sl_bounded_parts : Array (Option Value)} {oc_bounded_parts kV_bounded_parts dc_bounded_parts pm_bounded_parts cd_bounded_parts ct_bounded_parts : Value} {f_is_condition : Addr} {od_is_condition an_is_condition : Option Addr} {sl_is_condition : Array (Option Value)} {oc_is_condition kV_is_condition dc_is_condition pm_is_condition cd_is_condition ct_is_condition : Value} {f_law_cell_at : Addr} {od_law_cell_at an_law_cell_at : Option Addr} {sl_law_cell_at : Array (Option Value)} {oc_law_cell_at kV_law_cell_at dc_law_cell_at pm_law_cell_at cd_law_cell_at ct_law_cell_at : Value} {f_law_draws : Addr} {od_law_draws an_law_draws : Option Addr} {sl_law_draws : Array (Option Value)} {oc_law_draws kV_law_draws dc_law_draws pm_law_draws cd_law_draws ct_law_draws : Value} {f_law_name : Addr} {od_law_name an_law_name : Option Addr} {sl_law_name : Array (Option Value)} {oc_law_name kV_law_name dc_law_name pm_law_name cd_law_name ct_law_name : Value} {f_law_columns : Addr} {od_law_columns an_law_columns : Option Addr} {sl_law_columns : Array (Option Value)} {oc_law_columns kV_law_columns dc_law_columns pm_law_columns cd_law_columns ct_law_columns : Value} {f_law_ground : Addr} {od_law_ground an_law_ground : Option Addr} {sl_law_ground : Array (Option Value)} {oc_law_ground kV_law_ground dc_law_ground pm_law_ground cd_law_ground ct_law_ground : Value} {f_law_atom : Addr} {od_law_atom an_law_atom : Option Addr} {sl_law_atom : Array (Option Value)} {oc_law_atom kV_law_atom dc_law_atom pm_law_atom cd_law_atom ct_law_atom : Value} {f_law_condition : Addr} {od_law_condition an_law_condition : Option Addr} {sl_law_condition : Array (Option Value)} {oc_law_condition kV_law_condition dc_law_condition pm_law_condition cd_law_condition ct_law_condition : Value} {f_law_new_names : Addr} {od_law_new_names an_law_new_names : Option Addr} {sl_law_new_names : Array (Option Value)} {oc_law_new_names kV_law_new_names dc_law_new_names pm_law_new_names cd_law_new_names ct_law_new_names : Value} {f_law_odd : Addr} {od_law_odd an_law_odd : Option Addr} {sl_law_odd : Array (Option Value)} {oc_law_odd kV_law_odd dc_law_odd pm_law_odd cd_law_odd ct_law_odd : Value} {f_law_spoilt : Addr} {od_law_spoilt an_law_spoilt : Option Addr} {sl_law_spoilt : Array (Option Value)} {oc_law_spoilt kV_law_spoilt dc_law_spoilt pm_law_spoilt cd_law_spoilt ct_law_spoilt : Value} {f_law_from : Addr} {od_law_from an_law_from : Option Addr} {sl_law_from : Array (Option Value)} {oc_law_from kV_law_from dc_law_from pm_law_from cd_law_from ct_law_from : Value} {f_law_names_of : Addr} {od_law_names_of an_law_names_of : Option Addr} {sl_law_names_of : Array (Option Value)} {oc_law_names_of kV_law_names_of dc_law_names_of pm_law_names_of cd_law_names_of ct_law_names_of : Value} {f_law_sound : Addr} {od_law_sound an_law_sound : Option Addr} {sl_law_sound : Array (Option Value)} {oc_law_sound kV_law_sound dc_law_sound pm_law_sound cd_law_sound ct_law_sound : Value} {f_law_is_condition : Addr} {od_law_is_condition an_law_is_condition : Option Addr} {sl_law_is_condition : Array (Option Value)} {oc_law_is_condition kV_law_is_condition dc_law_is_condition pm_law_is_condition cd_law_is_condition ct_law_is_condition : Value} {f_law_some_columns : Addr} {od_law_some_columns an_law_some_columns : Option Addr} {sl_law_some_columns : Array (Option Value)} {oc_law_some_columns kV_law_some_columns dc_law_some_columns pm_law_some_columns cd_law_some_columns ct_law_some_columns : Value} {f_law : Addr} {od_law an_law : Option Addr} {sl_law : Array (Option Value)} {oc_law kV_law dc_law pm_law cd_law ct_law : Value}
    (a_FORMS : PySem.W.nsIn K mainGlobals "FORMS" = some (some (.ref q_FORMS)))
    (l_FORMS : K.lookup q_FORMS = some ⟨.type "dict", none, .dict #[⟨h_FORMS_0, .str "yes" k_FORMS_0, .ref q_FORMS_0⟩, ⟨h_FORMS_1, .str "is" k_FORMS_1, .ref q_FORMS_1⟩, ⟨h_FORMS_2, .str "below" k_FORMS_2, .ref q_FORMS_2⟩, ⟨h_FORMS_3, .str "same" k_FORMS_3, .ref q_FORMS_3⟩, ⟨h_FORMS_4, .str "mine" k_FORMS_4, .ref q_FORMS_4⟩, ⟨h_FORMS_5, .str "empty" k_FORMS_5, .ref q_FORMS_5⟩, ⟨h_FORMS_6, .str "loud" k_FORMS_6, .ref q_FORMS_6⟩, ⟨h_FORMS_7, .str "has" k_FORMS_7, .ref q_FORMS_7⟩, ⟨h_FORMS_8, .str "not" k_FORMS_8, .ref q_FORMS_8⟩, ⟨h_FORMS_9, .str "and" k_FORMS_9, .ref q_FORMS_9⟩, ⟨h_FORMS_10, .str "or" k_FORMS_10, .ref q_FORMS_10⟩] n_FORMS, #[]⟩)
    (e_FORMS_0 : K.lookup q_FORMS_0 = some ⟨.type "tuple", o_FORMS_0, .seq #[] n_FORMS_0, s_FORMS_0⟩)
    (e_FORMS_1 : K.lookup q_FORMS_1 = some ⟨.type "tuple", o_FORMS_1, .seq #[.str "column" t_FORMS_1_0, .str "value" t_FORMS_1_1] n_FORMS_1, s_FORMS_1⟩)
    (e_FORMS_2 : K.lookup q_FORMS_2 = some ⟨.type "tuple", o_FORMS_2, .seq #[.str "column" t_FORMS_2_0, .str "value" t_FORMS_2_1] n_FORMS_2, s_FORMS_2⟩)
    (e_FORMS_3 : K.lookup q_FORMS_3 = some ⟨.type "tuple", o_FORMS_3, .seq #[.str "column" t_FORMS_3_0, .str "column" t_FORMS_3_1] n_FORMS_3, s_FORMS_3⟩)
    (e_FORMS_4 : K.lookup q_FORMS_4 = some ⟨.type "tuple", o_FORMS_4, .seq #[.str "column" t_FORMS_4_0] n_FORMS_4, s_FORMS_4⟩)
    (e_FORMS_5 : K.lookup q_FORMS_5 = some ⟨.type "tuple", o_FORMS_5, .seq #[.str "column" t_FORMS_5_0] n_FORMS_5, s_FORMS_5⟩)
    (e_FORMS_6 : K.lookup q_FORMS_6 = some ⟨.type "tuple", o_FORMS_6, .seq #[.str "column" t_FORMS_6_0] n_FORMS_6, s_FORMS_6⟩)
    (e_FORMS_7 : K.lookup q_FORMS_7 = some ⟨.type "tuple", o_FORMS_7, .seq #[.str "table" t_FORMS_7_0, .str "column" t_FORMS_7_1, .str "there" t_FORMS_7_2, .str "condition" t_FORMS_7_3] n_FORMS_7, s_FORMS_7⟩)
    (e_FORMS_8 : K.lookup q_FORMS_8 = some ⟨.type "tuple", o_FORMS_8, .seq #[.str "condition" t_FORMS_8_0] n_FORMS_8, s_FORMS_8⟩)
    (e_FORMS_9 : K.lookup q_FORMS_9 = some ⟨.type "tuple", o_FORMS_9, .seq #[.str "condition" t_FORMS_9_0, .str "condition" t_FORMS_9_1] n_FORMS_9, s_FORMS_9⟩)
    (e_FORMS_10 : K.lookup q_FORMS_10 = some ⟨.type "tuple", o_FORMS_10, .seq #[.str "condition" t_FORMS_10_0, .str "condition" t_FORMS_10_1] n_FORMS_10, s_FORMS_10⟩)
    (x_FORMS : PySem.W.KeysLit w.params [⟨h_FORMS_0, .str "yes" k_FORMS_0, .ref q_FORMS_0⟩, ⟨h_FORMS_1, .str "is" k_FORMS_1, .ref q_FORMS_1⟩, ⟨h_FORMS_2, .str "below" k_FORMS_2, .ref q_FORMS_2⟩, ⟨h_FORMS_3, .str "same" k_FORMS_3, .ref q_FORMS_3⟩, ⟨h_FORMS_4, .str "mine" k_FORMS_4, .ref q_FORMS_4⟩, ⟨h_FORMS_5, .str "empty" k_FORMS_5, .ref q_FORMS_5⟩, ⟨h_FORMS_6, .str "loud" k_FORMS_6, .ref q_FORMS_6⟩, ⟨h_FORMS_7, .str "has" k_FORMS_7, .ref q_FORMS_7⟩, ⟨h_FORMS_8, .str "not" k_FORMS_8, .ref q_FORMS_8⟩, ⟨h_FORMS_9, .str "and" k_FORMS_9, .ref q_FORMS_9⟩, ⟨h_FORMS_10, .str "or" k_FORMS_10, .ref q_FORMS_10⟩])
    (y_FORMS : (q_FORMS == sysModules) = false)
    (a_MOST_VALUES : PySem.W.nsIn K mainGlobals "MOST_VALUES" = some (some (.ref q_MOST_VALUES)))
    (l_MOST_VALUES : K.lookup q_MOST_VALUES = some ⟨.type "dict", none, .dict #[⟨h_MOST_VALUES_0, .str "is" k_MOST_VALUES_0, .int 9 t_MOST_VALUES_0⟩, ⟨h_MOST_VALUES_1, .str "below" k_MOST_VALUES_1, .int 10 t_MOST_VALUES_1⟩] n_MOST_VALUES, #[]⟩)
    (x_MOST_VALUES : PySem.W.KeysLit w.params [⟨h_MOST_VALUES_0, .str "is" k_MOST_VALUES_0, .int 9 t_MOST_VALUES_0⟩, ⟨h_MOST_VALUES_1, .str "below" k_MOST_VALUES_1, .int 10 t_MOST_VALUES_1⟩])
    (y_MOST_VALUES : (q_MOST_VALUES == sysModules) = false)
    (a_MOST_CONDITIONS : PySem.W.nsIn K mainGlobals "MOST_CONDITIONS" = some (some (.int 8 t_MOST_CONDITIONS)))
    (z_isinstance : PySem.W.nsIn K mainGlobals "isinstance" = some none)
    (z_bool : PySem.W.nsIn K mainGlobals "bool" = some none)
    (z_int : PySem.W.nsIn K mainGlobals "int" = some none)
    (z_str : PySem.W.nsIn K mainGlobals "str" = some none)
    (z_tuple : PySem.W.nsIn K mainGlobals "tuple" = some none)
    (z_len : PySem.W.nsIn K mainGlobals "len" = some none)
    (z_zip : PySem.W.nsIn K mainGlobals "zip" = some none)
    (z_range : PySem.W.nsIn K mainGlobals "range" = some none)
    (z_min : PySem.W.nsIn K mainGlobals "min" = some none)
    (z_sorted : PySem.W.nsIn K mainGlobals "sorted" = some none)
    (z_any : PySem.W.nsIn K mainGlobals "any" = some none)
    (z_list : PySem.W.nsIn K mainGlobals "list" = some none)
    (z_all : PySem.W.nsIn K mainGlobals "all" = some none)
    (z_sum : PySem.W.nsIn K mainGlobals "sum" = some none)
    (z_repr : PySem.W.nsIn K mainGlobals "repr" = some none)
    (a_is_whole : PySem.W.nsIn K mainGlobals "is_whole" = some (some (.ref f_is_whole)))
    (l_is_whole : K.lookup f_is_whole = some ⟨oc_is_whole, od_is_whole, .func (PySem.W.fnOf "is_whole" "is_whole" (defArgs s_is_whole) (defBody s_is_whole) (defScope s_is_whole) .none kV_is_whole dc_is_whole pm_is_whole an_is_whole cd_is_whole ct_is_whole), sl_is_whole⟩)
    (c_is_whole : PySem.W.codeIn K cd_is_whole "is_whole" = true)
    (k_is_whole : PySem.W.keepIn K (.ref f_is_whole) = true)
    (a_is_whole_within : PySem.W.nsIn K mainGlobals "is_whole_within" = some (some (.ref f_is_whole_within)))
    (l_is_whole_within : K.lookup f_is_whole_within = some ⟨oc_is_whole_within, od_is_whole_within, .func (PySem.W.fnOf "is_whole_within" "is_whole_within" (defArgs s_is_whole_within) (defBody s_is_whole_within) (defScope s_is_whole_within) .none kV_is_whole_within dc_is_whole_within pm_is_whole_within an_is_whole_within cd_is_whole_within ct_is_whole_within), sl_is_whole_within⟩)
    (c_is_whole_within : PySem.W.codeIn K cd_is_whole_within "is_whole_within" = true)
    (k_is_whole_within : PySem.W.keepIn K (.ref f_is_whole_within) = true)
    (a_word_of : PySem.W.nsIn K mainGlobals "word_of" = some (some (.ref f_word_of)))
    (l_word_of : K.lookup f_word_of = some ⟨oc_word_of, od_word_of, .func (PySem.W.fnOf "word_of" "word_of" (defArgs s_word_of) (defBody s_word_of) (defScope s_word_of) .none kV_word_of dc_word_of pm_word_of an_word_of cd_word_of ct_word_of), sl_word_of⟩)
    (c_word_of : PySem.W.codeIn K cd_word_of "word_of" = true)
    (k_word_of : PySem.W.keepIn K (.ref f_word_of) = true)
    (a_find_table : PySem.W.nsIn K mainGlobals "find_table" = some (some (.ref f_find_table)))
    (l_find_table : K.lookup f_find_table = some ⟨oc_find_table, od_find_table, .func (PySem.W.fnOf "find_table" "find_table" (defArgs s_find_table) (defBody s_find_table) (defScope s_find_table) .none kV_find_table dc_find_table pm_find_table an_find_table cd_find_table ct_find_table), sl_find_table⟩)
    (c_find_table : PySem.W.codeIn K cd_find_table "find_table" = true)
    (k_find_table : PySem.W.keepIn K (.ref f_find_table) = true)
    (a_column_names : PySem.W.nsIn K mainGlobals "column_names" = some (some (.ref f_column_names)))
    (l_column_names : K.lookup f_column_names = some ⟨oc_column_names, od_column_names, .func (PySem.W.fnOf "column_names" "column_names" (defArgs s_column_names) (defBody s_column_names) (defScope s_column_names) .none kV_column_names dc_column_names pm_column_names an_column_names cd_column_names ct_column_names), sl_column_names⟩)
    (c_column_names : PySem.W.codeIn K cd_column_names "column_names" = true)
    (k_column_names : PySem.W.keepIn K (.ref f_column_names) = true)
    (a_has_form : PySem.W.nsIn K mainGlobals "has_form" = some (some (.ref f_has_form)))
    (l_has_form : K.lookup f_has_form = some ⟨oc_has_form, od_has_form, .func (PySem.W.fnOf "has_form" "has_form" (defArgs s_has_form) (defBody s_has_form) (defScope s_has_form) .none kV_has_form dc_has_form pm_has_form an_has_form cd_has_form ct_has_form), sl_has_form⟩)
    (c_has_form : PySem.W.codeIn K cd_has_form "has_form" = true)
    (k_has_form : PySem.W.keepIn K (.ref f_has_form) = true)
    (a_names_table : PySem.W.nsIn K mainGlobals "names_table" = some (some (.ref f_names_table)))
    (l_names_table : K.lookup f_names_table = some ⟨oc_names_table, od_names_table, .func (PySem.W.fnOf "names_table" "names_table" (defArgs s_names_table) (defBody s_names_table) (defScope s_names_table) .none kV_names_table dc_names_table pm_names_table an_names_table cd_names_table ct_names_table), sl_names_table⟩)
    (c_names_table : PySem.W.codeIn K cd_names_table "names_table" = true)
    (k_names_table : PySem.W.keepIn K (.ref f_names_table) = true)
    (a_is_part : PySem.W.nsIn K mainGlobals "is_part" = some (some (.ref f_is_part)))
    (l_is_part : K.lookup f_is_part = some ⟨oc_is_part, od_is_part, .func (PySem.W.fnOf "is_part" "is_part" (defArgs s_is_part) (defBody s_is_part) (defScope s_is_part) .none kV_is_part dc_is_part pm_is_part an_is_part cd_is_part ct_is_part), sl_is_part⟩)
    (c_is_part : PySem.W.codeIn K cd_is_part "is_part" = true)
    (k_is_part : PySem.W.keepIn K (.ref f_is_part) = true)
    (a_conditions_here : PySem.W.nsIn K mainGlobals "conditions_here" = some (some (.ref f_conditions_here)))
    (l_conditions_here : K.lookup f_conditions_here = some ⟨oc_conditions_here, od_conditions_here, .func (PySem.W.fnOf "conditions_here" "conditions_here" (defArgs s_conditions_here) (defBody s_conditions_here) (defScope s_conditions_here) .none kV_conditions_here dc_conditions_here pm_conditions_here an_conditions_here cd_conditions_here ct_conditions_here), sl_conditions_here⟩)
    (c_conditions_here : PySem.W.codeIn K cd_conditions_here "conditions_here" = true)
    (k_conditions_here : PySem.W.keepIn K (.ref f_conditions_here) = true)
    (a_parts_within : PySem.W.nsIn K mainGlobals "parts_within" = some (some (.ref f_parts_within)))
    (l_parts_within : K.lookup f_parts_within = some ⟨oc_parts_within, od_parts_within, .func (PySem.W.fnOf "parts_within" "parts_within" (defArgs s_parts_within) (defBody s_parts_within) (defScope s_parts_within) .none kV_parts_within dc_parts_within pm_parts_within an_parts_within cd_parts_within ct_parts_within), sl_parts_within⟩)
    (c_parts_within : PySem.W.codeIn K cd_parts_within "parts_within" = true)
    (k_parts_within : PySem.W.keepIn K (.ref f_parts_within) = true)
    (a_all_parts : PySem.W.nsIn K mainGlobals "all_parts" = some (some (.ref f_all_parts)))
    (l_all_parts : K.lookup f_all_parts = some ⟨oc_all_parts, od_all_parts, .func (PySem.W.fnOf "all_parts" "all_parts" (defArgs s_all_parts) (defBody s_all_parts) (defScope s_all_parts) .none kV_all_parts dc_all_parts pm_all_parts an_all_parts cd_all_parts ct_all_parts), sl_all_parts⟩)
    (c_all_parts : PySem.W.codeIn K cd_all_parts "all_parts" = true)
    (k_all_parts : PySem.W.keepIn K (.ref f_all_parts) = true)
    (a_bounded_parts : PySem.W.nsIn K mainGlobals "bounded_parts" = some (some (.ref f_bounded_parts)))
    (l_bounded_parts : K.lookup f_bounded_parts = some ⟨oc_bounded_parts, od_bounded_parts, .func (PySem.W.fnOf "bounded_parts" "bounded_parts" (defArgs s_bounded_parts) (defBody s_bounded_parts) (defScope s_bounded_parts) .none kV_bounded_parts dc_bounded_parts pm_bounded_parts an_bounded_parts cd_bounded_parts ct_bounded_parts), sl_bounded_parts⟩)
    (c_bounded_parts : PySem.W.codeIn K cd_bounded_parts "bounded_parts" = true)
    (k_bounded_parts : PySem.W.keepIn K (.ref f_bounded_parts) = true)
    (a_is_condition : PySem.W.nsIn K mainGlobals "is_condition" = some (some (.ref f_is_condition)))
    (l_is_condition : K.lookup f_is_condition = some ⟨oc_is_condition, od_is_condition, .func (PySem.W.fnOf "is_condition" "is_condition" (defArgs s_is_condition) (defBody s_is_condition) (defScope s_is_condition) .none kV_is_condition dc_is_condition pm_is_condition an_is_condition cd_is_condition ct_is_condition), sl_is_condition⟩)
    (c_is_condition : PySem.W.codeIn K cd_is_condition "is_condition" = true)
    (k_is_condition : PySem.W.keepIn K (.ref f_is_condition) = true)
    (a_law_cell_at : PySem.W.nsIn K mainGlobals "_law_cell_at" = some (some (.ref f_law_cell_at)))
    (l_law_cell_at : K.lookup f_law_cell_at = some ⟨oc_law_cell_at, od_law_cell_at, .func (PySem.W.fnOf "_law_cell_at" "_law_cell_at" (defArgs s_law_cell_at) (defBody s_law_cell_at) (defScope s_law_cell_at) .none kV_law_cell_at dc_law_cell_at pm_law_cell_at an_law_cell_at cd_law_cell_at ct_law_cell_at), sl_law_cell_at⟩)
    (c_law_cell_at : PySem.W.codeIn K cd_law_cell_at "_law_cell_at" = true)
    (k_law_cell_at : PySem.W.keepIn K (.ref f_law_cell_at) = true)
    (a_law_draws : PySem.W.nsIn K mainGlobals "_law_draws" = some (some (.ref f_law_draws)))
    (l_law_draws : K.lookup f_law_draws = some ⟨oc_law_draws, od_law_draws, .func (PySem.W.fnOf "_law_draws" "_law_draws" (defArgs s_law_draws) (defBody s_law_draws) (defScope s_law_draws) .none kV_law_draws dc_law_draws pm_law_draws an_law_draws cd_law_draws ct_law_draws), sl_law_draws⟩)
    (c_law_draws : PySem.W.codeIn K cd_law_draws "_law_draws" = true)
    (k_law_draws : PySem.W.keepIn K (.ref f_law_draws) = true)
    (a_law_name : PySem.W.nsIn K mainGlobals "_law_name" = some (some (.ref f_law_name)))
    (l_law_name : K.lookup f_law_name = some ⟨oc_law_name, od_law_name, .func (PySem.W.fnOf "_law_name" "_law_name" (defArgs s_law_name) (defBody s_law_name) (defScope s_law_name) .none kV_law_name dc_law_name pm_law_name an_law_name cd_law_name ct_law_name), sl_law_name⟩)
    (c_law_name : PySem.W.codeIn K cd_law_name "_law_name" = true)
    (k_law_name : PySem.W.keepIn K (.ref f_law_name) = true)
    (a_law_columns : PySem.W.nsIn K mainGlobals "_law_columns" = some (some (.ref f_law_columns)))
    (l_law_columns : K.lookup f_law_columns = some ⟨oc_law_columns, od_law_columns, .func (PySem.W.fnOf "_law_columns" "_law_columns" (defArgs s_law_columns) (defBody s_law_columns) (defScope s_law_columns) .none kV_law_columns dc_law_columns pm_law_columns an_law_columns cd_law_columns ct_law_columns), sl_law_columns⟩)
    (c_law_columns : PySem.W.codeIn K cd_law_columns "_law_columns" = true)
    (k_law_columns : PySem.W.keepIn K (.ref f_law_columns) = true)
    (a_law_ground : PySem.W.nsIn K mainGlobals "_law_ground" = some (some (.ref f_law_ground)))
    (l_law_ground : K.lookup f_law_ground = some ⟨oc_law_ground, od_law_ground, .func (PySem.W.fnOf "_law_ground" "_law_ground" (defArgs s_law_ground) (defBody s_law_ground) (defScope s_law_ground) .none kV_law_ground dc_law_ground pm_law_ground an_law_ground cd_law_ground ct_law_ground), sl_law_ground⟩)
    (c_law_ground : PySem.W.codeIn K cd_law_ground "_law_ground" = true)
    (k_law_ground : PySem.W.keepIn K (.ref f_law_ground) = true)
    (a_law_atom : PySem.W.nsIn K mainGlobals "_law_atom" = some (some (.ref f_law_atom)))
    (l_law_atom : K.lookup f_law_atom = some ⟨oc_law_atom, od_law_atom, .func (PySem.W.fnOf "_law_atom" "_law_atom" (defArgs s_law_atom) (defBody s_law_atom) (defScope s_law_atom) .none kV_law_atom dc_law_atom pm_law_atom an_law_atom cd_law_atom ct_law_atom), sl_law_atom⟩)
    (c_law_atom : PySem.W.codeIn K cd_law_atom "_law_atom" = true)
    (k_law_atom : PySem.W.keepIn K (.ref f_law_atom) = true)
    (a_law_condition : PySem.W.nsIn K mainGlobals "_law_condition" = some (some (.ref f_law_condition)))
    (l_law_condition : K.lookup f_law_condition = some ⟨oc_law_condition, od_law_condition, .func (PySem.W.fnOf "_law_condition" "_law_condition" (defArgs s_law_condition) (defBody s_law_condition) (defScope s_law_condition) .none kV_law_condition dc_law_condition pm_law_condition an_law_condition cd_law_condition ct_law_condition), sl_law_condition⟩)
    (c_law_condition : PySem.W.codeIn K cd_law_condition "_law_condition" = true)
    (k_law_condition : PySem.W.keepIn K (.ref f_law_condition) = true)
    (a_law_new_names : PySem.W.nsIn K mainGlobals "_law_new_names" = some (some (.ref f_law_new_names)))
    (l_law_new_names : K.lookup f_law_new_names = some ⟨oc_law_new_names, od_law_new_names, .func (PySem.W.fnOf "_law_new_names" "_law_new_names" (defArgs s_law_new_names) (defBody s_law_new_names) (defScope s_law_new_names) .none kV_law_new_names dc_law_new_names pm_law_new_names an_law_new_names cd_law_new_names ct_law_new_names), sl_law_new_names⟩)
    (c_law_new_names : PySem.W.codeIn K cd_law_new_names "_law_new_names" = true)
    (k_law_new_names : PySem.W.keepIn K (.ref f_law_new_names) = true)
    (a_law_odd : PySem.W.nsIn K mainGlobals "_law_odd" = some (some (.ref f_law_odd)))
    (l_law_odd : K.lookup f_law_odd = some ⟨oc_law_odd, od_law_odd, .func (PySem.W.fnOf "_law_odd" "_law_odd" (defArgs s_law_odd) (defBody s_law_odd) (defScope s_law_odd) .none kV_law_odd dc_law_odd pm_law_odd an_law_odd cd_law_odd ct_law_odd), sl_law_odd⟩)
    (c_law_odd : PySem.W.codeIn K cd_law_odd "_law_odd" = true)
    (k_law_odd : PySem.W.keepIn K (.ref f_law_odd) = true)
    (a_law_spoilt : PySem.W.nsIn K mainGlobals "_law_spoilt" = some (some (.ref f_law_spoilt)))
    (l_law_spoilt : K.lookup f_law_spoilt = some ⟨oc_law_spoilt, od_law_spoilt, .func (PySem.W.fnOf "_law_spoilt" "_law_spoilt" (defArgs s_law_spoilt) (defBody s_law_spoilt) (defScope s_law_spoilt) .none kV_law_spoilt dc_law_spoilt pm_law_spoilt an_law_spoilt cd_law_spoilt ct_law_spoilt), sl_law_spoilt⟩)
    (c_law_spoilt : PySem.W.codeIn K cd_law_spoilt "_law_spoilt" = true)
    (k_law_spoilt : PySem.W.keepIn K (.ref f_law_spoilt) = true)
    (a_law_from : PySem.W.nsIn K mainGlobals "_law_from" = some (some (.ref f_law_from)))
    (l_law_from : K.lookup f_law_from = some ⟨oc_law_from, od_law_from, .func (PySem.W.fnOf "_law_from" "_law_from" (defArgs s_law_from) (defBody s_law_from) (defScope s_law_from) .none kV_law_from dc_law_from pm_law_from an_law_from cd_law_from ct_law_from), sl_law_from⟩)
    (c_law_from : PySem.W.codeIn K cd_law_from "_law_from" = true)
    (k_law_from : PySem.W.keepIn K (.ref f_law_from) = true)
    (a_law_names_of : PySem.W.nsIn K mainGlobals "_law_names_of" = some (some (.ref f_law_names_of)))
    (l_law_names_of : K.lookup f_law_names_of = some ⟨oc_law_names_of, od_law_names_of, .func (PySem.W.fnOf "_law_names_of" "_law_names_of" (defArgs s_law_names_of) (defBody s_law_names_of) (defScope s_law_names_of) .none kV_law_names_of dc_law_names_of pm_law_names_of an_law_names_of cd_law_names_of ct_law_names_of), sl_law_names_of⟩)
    (c_law_names_of : PySem.W.codeIn K cd_law_names_of "_law_names_of" = true)
    (k_law_names_of : PySem.W.keepIn K (.ref f_law_names_of) = true)
    (a_law_sound : PySem.W.nsIn K mainGlobals "_law_sound" = some (some (.ref f_law_sound)))
    (l_law_sound : K.lookup f_law_sound = some ⟨oc_law_sound, od_law_sound, .func (PySem.W.fnOf "_law_sound" "_law_sound" (defArgs s_law_sound) (defBody s_law_sound) (defScope s_law_sound) .none kV_law_sound dc_law_sound pm_law_sound an_law_sound cd_law_sound ct_law_sound), sl_law_sound⟩)
    (c_law_sound : PySem.W.codeIn K cd_law_sound "_law_sound" = true)
    (k_law_sound : PySem.W.keepIn K (.ref f_law_sound) = true)
    (a_law_is_condition : PySem.W.nsIn K mainGlobals "_law_is_condition" = some (some (.ref f_law_is_condition)))
    (l_law_is_condition : K.lookup f_law_is_condition = some ⟨oc_law_is_condition, od_law_is_condition, .func (PySem.W.fnOf "_law_is_condition" "_law_is_condition" (defArgs s_law_is_condition) (defBody s_law_is_condition) (defScope s_law_is_condition) .none kV_law_is_condition dc_law_is_condition pm_law_is_condition an_law_is_condition cd_law_is_condition ct_law_is_condition), sl_law_is_condition⟩)
    (c_law_is_condition : PySem.W.codeIn K cd_law_is_condition "_law_is_condition" = true)
    (k_law_is_condition : PySem.W.keepIn K (.ref f_law_is_condition) = true)
    (a_law_some_columns : PySem.W.nsIn K mainGlobals "_law_some_columns" = some (some (.ref f_law_some_columns)))
    (l_law_some_columns : K.lookup f_law_some_columns = some ⟨oc_law_some_columns, od_law_some_columns, .func (PySem.W.fnOf "_law_some_columns" "_law_some_columns" (defArgs s_law_some_columns) (defBody s_law_some_columns) (defScope s_law_some_columns) .none kV_law_some_columns dc_law_some_columns pm_law_some_columns an_law_some_columns cd_law_some_columns ct_law_some_columns), sl_law_some_columns⟩)
    (c_law_some_columns : PySem.W.codeIn K cd_law_some_columns "_law_some_columns" = true)
    (k_law_some_columns : PySem.W.keepIn K (.ref f_law_some_columns) = true)
    (a_law : PySem.W.nsIn K mainGlobals "law" = some (some (.ref f_law)))
    (l_law : K.lookup f_law = some ⟨oc_law, od_law, .func (PySem.W.fnOf "law" "law" (defArgs s_law) (defBody s_law) (defScope s_law) .none kV_law dc_law pm_law an_law cd_law ct_law), sl_law⟩)
    (c_law : PySem.W.codeIn K cd_law "law" = true)
    (k_law : PySem.W.keepIn K (.ref f_law) = true) :
    ∃ fd : FuncData, (∀ (s : Shared) (v : Value), BindsTo s fd ⟨[v], []⟩ [("script", v)]) ∧ ∀ base : Heap, K.In base → base.Ns mainGlobals mg → FnOk l.prog w K mg base CX0 53 fa fd ["script"] (spLaw K) := by
  have e : fa = f_law := Value.ref.inj (Option.some.inj (hfa.symm.trans (PySem.W.mg_of X G a_law)))
  rw [e]
  have F_is_whole := fun_mk (st := s_is_whole) l_is_whole c_is_whole k_is_whole
  have b_is_whole := F_is_whole.binds (ps := ["thing"]) fun _ _ _ _ _ _ us hl => match us, hl with | [_], _ => rfl
  have F_is_whole_within := fun_mk (st := s_is_whole_within) l_is_whole_within c_is_whole_within k_is_whole_within
  have b_is_whole_within := F_is_whole_within.binds (ps := ["thing", "least", "most"]) fun _ _ _ _ _ _ us hl => match us, hl with | [_, _, _], _ => rfl
  have F_word_of := fun_mk (st := s_word_of) l_word_of c_word_of k_word_of
  have b_word_of := F_word_of.binds (ps := ["thing"]) fun _ _ _ _ _ _ us hl => match us, hl with | [_], _ => rfl
  have F_find_table := fun_mk (st := s_find_table) l_find_table c_find_table k_find_table
  have b_find_table := F_find_table.binds (ps := ["ground", "name"]) fun _ _ _ _ _ _ us hl => match us, hl with | [_, _], _ => rfl
  have F_column_names := fun_mk (st := s_column_names) l_column_names c_column_names k_column_names
  have b_column_names := F_column_names.binds (ps := ["table"]) fun _ _ _ _ _ _ us hl => match us, hl with | [_], _ => rfl
  have F_has_form := fun_mk (st := s_has_form) l_has_form c_has_form k_has_form
  have b_has_form := F_has_form.binds (ps := ["thing"]) fun _ _ _ _ _ _ us hl => match us, hl with | [_], _ => rfl
  have F_names_table := fun_mk (st := s_names_table) l_names_table c_names_table k_names_table
  have b_names_table := F_names_table.binds (ps := ["ground", "thing"]) fun _ _ _ _ _ _ us hl => match us, hl with | [_, _], _ => rfl
  have F_is_part := fun_mk (st := s_is_part) l_is_part c_is_part k_is_part
  have b_is_part := F_is_part.binds (ps := ["ground", "columns", "thing"]) fun _ _ _ _ _ _ us hl => match us, hl with | [_, _, _], _ => rfl
  have F_conditions_here := fun_mk (st := s_conditions_here) l_conditions_here c_conditions_here k_conditions_here
  have b_conditions_here := F_conditions_here.binds (ps := ["condition"]) fun _ _ _ _ _ _ us hl => match us, hl with | [_], _ => rfl
  have F_parts_within := fun_mk (st := s_parts_within) l_parts_within c_parts_within k_parts_within
  have b_parts_within := F_parts_within.binds (ps := ["ground", "columns", "condition"]) fun _ _ _ _ _ _ us hl => match us, hl with | [_, _, _], _ => rfl
  have F_all_parts := fun_mk (st := s_all_parts) l_all_parts c_all_parts k_all_parts
  have b_all_parts := F_all_parts.binds (ps := ["ground", "columns", "thing", "most"]) fun _ _ _ _ _ _ us hl => match us, hl with | [_, _, _, _], _ => rfl
  have F_bounded_parts := fun_mk (st := s_bounded_parts) l_bounded_parts c_bounded_parts k_bounded_parts
  have b_bounded_parts := F_bounded_parts.binds (ps := ["ground", "columns", "thing"]) fun _ _ _ _ _ _ us hl => match us, hl with | [_, _, _], _ => rfl
  have F_is_condition := fun_mk (st := s_is_condition) l_is_condition c_is_condition k_is_condition
  have b_is_condition := F_is_condition.binds (ps := ["ground", "columns", "thing"]) fun _ _ _ _ _ _ us hl => match us, hl with | [_, _, _], _ => rfl
  have F_law_cell_at := fun_mk (st := s_law_cell_at) l_law_cell_at c_law_cell_at k_law_cell_at
  have b_law_cell_at := F_law_cell_at.binds (ps := ["script", "k"]) fun _ _ _ _ _ _ us hl => match us, hl with | [_, _], _ => rfl
  have F_law_draws := fun_mk (st := s_law_draws) l_law_draws c_law_draws k_law_draws
  have b_law_draws := F_law_draws.binds (ps := ["cell", "many", "base"]) fun _ _ _ _ _ _ us hl => match us, hl with | [_, _, _], _ => rfl
  have F_law_name := fun_mk (st := s_law_name) l_law_name c_law_name k_law_name
  have b_law_name := F_law_name.binds (ps := ["some", "taken"]) fun _ _ _ _ _ _ us hl => match us, hl with | [_, _], _ => rfl
  have F_law_columns := fun_mk (st := s_law_columns) l_law_columns c_law_columns k_law_columns
  have b_law_columns := F_law_columns.binds (ps := ["picks", "many", "top"]) fun _ _ _ _ _ _ us hl => match us, hl with | [_, _, _], _ => rfl
  have F_law_ground := fun_mk (st := s_law_ground) l_law_ground c_law_ground k_law_ground
  have b_law_ground := F_law_ground.binds (ps := ["picks", "top"]) fun _ _ _ _ _ _ us hl => match us, hl with | [_, _], _ => rfl
  have F_law_atom := fun_mk (st := s_law_atom) l_law_atom c_law_atom k_law_atom
  have b_law_atom := F_law_atom.binds (ps := ["picks", "columns", "ways"]) fun _ _ _ _ _ _ us hl => match us, hl with | [_, _, _], _ => rfl
  have F_law_condition := fun_mk (st := s_law_condition) l_law_condition c_law_condition k_law_condition
  have b_law_condition := F_law_condition.binds (ps := ["picks", "parts", "ground", "columns", "ways"]) fun _ _ _ _ _ _ us hl => match us, hl with | [_, _, _, _, _], _ => rfl
  have F_law_new_names := fun_mk (st := s_law_new_names) l_law_new_names c_law_new_names k_law_new_names
  have b_law_new_names := F_law_new_names.binds (ps := ["picks", "many", "taken"]) fun _ _ _ _ _ _ us hl => match us, hl with | [_, _, _], _ => rfl
  have F_law_odd := fun_mk (st := s_law_odd) l_law_odd c_law_odd k_law_odd
  have b_law_odd := F_law_odd.binds (ps := ["picks"]) fun _ _ _ _ _ _ us hl => match us, hl with | [_], _ => rfl
  have F_law_spoilt := fun_mk (st := s_law_spoilt) l_law_spoilt c_law_spoilt k_law_spoilt
  have b_law_spoilt := F_law_spoilt.binds (ps := ["thing", "picks"]) fun _ _ _ _ _ _ us hl => match us, hl with | [_, _], _ => rfl
  have F_law_from := fun_mk (st := s_law_from) l_law_from c_law_from k_law_from
  have b_law_from := F_law_from.binds (ps := ["thing", "least", "top"]) fun _ _ _ _ _ _ us hl => match us, hl with | [_, _, _], _ => rfl
  have F_law_names_of := fun_mk (st := s_law_names_of) l_law_names_of c_law_names_of k_law_names_of
  have b_law_names_of := F_law_names_of.binds (ps := ["ground", "name"]) fun _ _ _ _ _ _ us hl => match us, hl with | [_, _], _ => rfl
  have F_law_sound := fun_mk (st := s_law_sound) l_law_sound c_law_sound k_law_sound
  have b_law_sound := F_law_sound.binds (ps := ["ground", "columns", "thing", "plain", "inside"]) fun _ _ _ _ _ _ us hl => match us, hl with | [_, _, _, _, _], _ => rfl
  have F_law_is_condition := fun_mk (st := s_law_is_condition) l_law_is_condition c_law_is_condition k_law_is_condition
  have b_law_is_condition := F_law_is_condition.binds (ps := ["ground", "columns", "thing"]) fun _ _ _ _ _ _ us hl => match us, hl with | [_, _, _], _ => rfl
  have F_law_some_columns := fun_mk (st := s_law_some_columns) l_law_some_columns c_law_some_columns k_law_some_columns
  have b_law_some_columns := F_law_some_columns.binds (ps := ["picks", "ground"]) fun _ _ _ _ _ _ us hl => match us, hl with | [_, _], _ => rfl
  have F_law := fun_mk (st := s_law) l_law c_law k_law
  have b_law := F_law.binds (ps := ["script"]) fun _ _ _ _ _ _ us hl => match us, hl with | [_], _ => rfl
  let T : Txt K mg w := {
    n_isinstance := PySem.W.mg_none_of X G z_isinstance
    n_bool := PySem.W.mg_none_of X G z_bool
    n_int := PySem.W.mg_none_of X G z_int
    n_str := PySem.W.mg_none_of X G z_str
    n_tuple := PySem.W.mg_none_of X G z_tuple
    n_len := PySem.W.mg_none_of X G z_len
    n_zip := PySem.W.mg_none_of X G z_zip
    n_range := PySem.W.mg_none_of X G z_range
    n_min := PySem.W.mg_none_of X G z_min
    n_sorted := PySem.W.mg_none_of X G z_sorted
    n_any := PySem.W.mg_none_of X G z_any
    n_list := PySem.W.mg_none_of X G z_list
    n_all := PySem.W.mg_none_of X G z_all
    n_sum := PySem.W.mg_none_of X G z_sum
    n_repr := PySem.W.mg_none_of X G z_repr
    q_FORMS := q_FORMS
    mg_FORMS := PySem.W.mg_of X G a_FORMS
    kd_FORMS := ⟨_, _, ⟨l_FORMS, x_FORMS, y_FORMS⟩, (.cons (v := .ref q_FORMS_0) rfl (fun _ => .tup (xs := []) (.inr ⟨_, _, _, e_FORMS_0, rfl, rfl, by (show (0 : Nat) ≤ sizeLine); decide, .nil⟩) (.nil)) (.cons (v := .ref q_FORMS_1) rfl (fun _ => .tup (xs := [.str "column", .str "value"]) (.inr ⟨_, _, _, e_FORMS_1, rfl, rfl, by (show (2 : Nat) ≤ sizeLine); decide, .cons ⟨_, rfl⟩ (.cons ⟨_, rfl⟩ (.nil))⟩) (.cons (.str _) (.cons (.str _) (.nil)))) (.cons (v := .ref q_FORMS_2) rfl (fun _ => .tup (xs := [.str "column", .str "value"]) (.inr ⟨_, _, _, e_FORMS_2, rfl, rfl, by (show (2 : Nat) ≤ sizeLine); decide, .cons ⟨_, rfl⟩ (.cons ⟨_, rfl⟩ (.nil))⟩) (.cons (.str _) (.cons (.str _) (.nil)))) (.cons (v := .ref q_FORMS_3) rfl (fun _ => .tup (xs := [.str "column", .str "column"]) (.inr ⟨_, _, _, e_FORMS_3, rfl, rfl, by (show (2 : Nat) ≤ sizeLine); decide, .cons ⟨_, rfl⟩ (.cons ⟨_, rfl⟩ (.nil))⟩) (.cons (.str _) (.cons (.str _) (.nil)))) (.cons (v := .ref q_FORMS_4) rfl (fun _ => .tup (xs := [.str "column"]) (.inr ⟨_, _, _, e_FORMS_4, rfl, rfl, by (show (1 : Nat) ≤ sizeLine); decide, .cons ⟨_, rfl⟩ (.nil)⟩) (.cons (.str _) (.nil))) (.cons (v := .ref q_FORMS_5) rfl (fun _ => .tup (xs := [.str "column"]) (.inr ⟨_, _, _, e_FORMS_5, rfl, rfl, by (show (1 : Nat) ≤ sizeLine); decide, .cons ⟨_, rfl⟩ (.nil)⟩) (.cons (.str _) (.nil))) (.cons (v := .ref q_FORMS_6) rfl (fun _ => .tup (xs := [.str "column"]) (.inr ⟨_, _, _, e_FORMS_6, rfl, rfl, by (show (1 : Nat) ≤ sizeLine); decide, .cons ⟨_, rfl⟩ (.nil)⟩) (.cons (.str _) (.nil))) (.cons (v := .ref q_FORMS_7) rfl (fun _ => .tup (xs := [.str "table", .str "column", .str "there", .str "condition"]) (.inr ⟨_, _, _, e_FORMS_7, rfl, rfl, by (show (4 : Nat) ≤ sizeLine); decide, .cons ⟨_, rfl⟩ (.cons ⟨_, rfl⟩ (.cons ⟨_, rfl⟩ (.cons ⟨_, rfl⟩ (.nil))))⟩) (.cons (.str _) (.cons (.str _) (.cons (.str _) (.cons (.str _) (.nil)))))) (.cons (v := .ref q_FORMS_8) rfl (fun _ => .tup (xs := [.str "condition"]) (.inr ⟨_, _, _, e_FORMS_8, rfl, rfl, by (show (1 : Nat) ≤ sizeLine); decide, .cons ⟨_, rfl⟩ (.nil)⟩) (.cons (.str _) (.nil))) (.cons (v := .ref q_FORMS_9) rfl (fun _ => .tup (xs := [.str "condition", .str "condition"]) (.inr ⟨_, _, _, e_FORMS_9, rfl, rfl, by (show (2 : Nat) ≤ sizeLine); decide, .cons ⟨_, rfl⟩ (.cons ⟨_, rfl⟩ (.nil))⟩) (.cons (.str _) (.cons (.str _) (.nil)))) (.cons (v := .ref q_FORMS_10) rfl (fun _ => .tup (xs := [.str "condition", .str "condition"]) (.inr ⟨_, _, _, e_FORMS_10, rfl, rfl, by (show (2 : Nat) ≤ sizeLine); decide, .cons ⟨_, rfl⟩ (.cons ⟨_, rfl⟩ (.nil))⟩) (.cons (.str _) (.cons (.str _) (.nil)))) .nil)))))))))))⟩
    q_MOST_VALUES := q_MOST_VALUES
    mg_MOST_VALUES := PySem.W.mg_of X G a_MOST_VALUES
    kd_MOST_VALUES := ⟨_, _, ⟨l_MOST_VALUES, x_MOST_VALUES, y_MOST_VALUES⟩, (.cons (v := .int 9) ⟨_, rfl⟩ (fun _ => .int _) (.cons (v := .int 10) ⟨_, rfl⟩ (fun _ => .int _) .nil))⟩
    u_MOST_CONDITIONS := .int 8 t_MOST_CONDITIONS
    v_MOST_CONDITIONS := .int 8
    mg_MOST_CONDITIONS := PySem.W.mg_of X G a_MOST_CONDITIONS
    rl_MOST_CONDITIONS := ⟨_, rfl⟩
    dp_MOST_CONDITIONS := fun _ => .int _
    f_is_whole := f_is_whole
    fd_is_whole := _
    F_is_whole := F_is_whole
    b_is_whole := b_is_whole
    g_is_whole := PySem.W.mg_of X G a_is_whole
    k_is_whole := k_is_whole
    f_is_whole_within := f_is_whole_within
    fd_is_whole_within := _
    F_is_whole_within := F_is_whole_within
    b_is_whole_within := b_is_whole_within
    g_is_whole_within := PySem.W.mg_of X G a_is_whole_within
    k_is_whole_within := k_is_whole_within
    f_word_of := f_word_of
    fd_word_of := _
    F_word_of := F_word_of
    b_word_of := b_word_of
    g_word_of := PySem.W.mg_of X G a_word_of
    k_word_of := k_word_of
    f_find_table := f_find_table
    fd_find_table := _
    F_find_table := F_find_table
    b_find_table := b_find_table
    g_find_table := PySem.W.mg_of X G a_find_table
    k_find_table := k_find_table
    f_column_names := f_column_names
    fd_column_names := _
    F_column_names := F_column_names
    b_column_names := b_column_names
    g_column_names := PySem.W.mg_of X G a_column_names
    k_column_names := k_column_names
    f_has_form := f_has_form
    fd_has_form := _
    F_has_form := F_has_form
    b_has_form := b_has_form
    g_has_form := PySem.W.mg_of X G a_has_form
    k_has_form := k_has_form
    f_names_table := f_names_table
    fd_names_table := _
    F_names_table := F_names_table
    b_names_table := b_names_table
    g_names_table := PySem.W.mg_of X G a_names_table
    k_names_table := k_names_table
    f_is_part := f_is_part
    fd_is_part := _
    F_is_part := F_is_part
    b_is_part := b_is_part
    g_is_part := PySem.W.mg_of X G a_is_part
    k_is_part := k_is_part
    f_conditions_here := f_conditions_here
    fd_conditions_here := _
    F_conditions_here := F_conditions_here
    b_conditions_here := b_conditions_here
    g_conditions_here := PySem.W.mg_of X G a_conditions_here
    k_conditions_here := k_conditions_here
    f_parts_within := f_parts_within
    fd_parts_within := _
    F_parts_within := F_parts_within
    b_parts_within := b_parts_within
    g_parts_within := PySem.W.mg_of X G a_parts_within
    k_parts_within := k_parts_within
    f_all_parts := f_all_parts
    fd_all_parts := _
    F_all_parts := F_all_parts
    b_all_parts := b_all_parts
    g_all_parts := PySem.W.mg_of X G a_all_parts
    k_all_parts := k_all_parts
    f_bounded_parts := f_bounded_parts
    fd_bounded_parts := _
    F_bounded_parts := F_bounded_parts
    b_bounded_parts := b_bounded_parts
    g_bounded_parts := PySem.W.mg_of X G a_bounded_parts
    k_bounded_parts := k_bounded_parts
    f_is_condition := f_is_condition
    fd_is_condition := _
    F_is_condition := F_is_condition
    b_is_condition := b_is_condition
    g_is_condition := PySem.W.mg_of X G a_is_condition
    k_is_condition := k_is_condition
    f_law_cell_at := f_law_cell_at
    fd_law_cell_at := _
    F_law_cell_at := F_law_cell_at
    b_law_cell_at := b_law_cell_at
    g_law_cell_at := PySem.W.mg_of X G a_law_cell_at
    k_law_cell_at := k_law_cell_at
    f_law_draws := f_law_draws
    fd_law_draws := _
    F_law_draws := F_law_draws
    b_law_draws := b_law_draws
    g_law_draws := PySem.W.mg_of X G a_law_draws
    k_law_draws := k_law_draws
    f_law_name := f_law_name
    fd_law_name := _
    F_law_name := F_law_name
    b_law_name := b_law_name
    g_law_name := PySem.W.mg_of X G a_law_name
    k_law_name := k_law_name
    f_law_columns := f_law_columns
    fd_law_columns := _
    F_law_columns := F_law_columns
    b_law_columns := b_law_columns
    g_law_columns := PySem.W.mg_of X G a_law_columns
    k_law_columns := k_law_columns
    f_law_ground := f_law_ground
    fd_law_ground := _
    F_law_ground := F_law_ground
    b_law_ground := b_law_ground
    g_law_ground := PySem.W.mg_of X G a_law_ground
    k_law_ground := k_law_ground
    f_law_atom := f_law_atom
    fd_law_atom := _
    F_law_atom := F_law_atom
    b_law_atom := b_law_atom
    g_law_atom := PySem.W.mg_of X G a_law_atom
    k_law_atom := k_law_atom
    f_law_condition := f_law_condition
    fd_law_condition := _
    F_law_condition := F_law_condition
    b_law_condition := b_law_condition
    g_law_condition := PySem.W.mg_of X G a_law_condition
    k_law_condition := k_law_condition
    f_law_new_names := f_law_new_names
    fd_law_new_names := _
    F_law_new_names := F_law_new_names
    b_law_new_names := b_law_new_names
    g_law_new_names := PySem.W.mg_of X G a_law_new_names
    k_law_new_names := k_law_new_names
    f_law_odd := f_law_odd
    fd_law_odd := _
    F_law_odd := F_law_odd
    b_law_odd := b_law_odd
    g_law_odd := PySem.W.mg_of X G a_law_odd
    k_law_odd := k_law_odd
    f_law_spoilt := f_law_spoilt
    fd_law_spoilt := _
    F_law_spoilt := F_law_spoilt
    b_law_spoilt := b_law_spoilt
    g_law_spoilt := PySem.W.mg_of X G a_law_spoilt
    k_law_spoilt := k_law_spoilt
    f_law_from := f_law_from
    fd_law_from := _
    F_law_from := F_law_from
    b_law_from := b_law_from
    g_law_from := PySem.W.mg_of X G a_law_from
    k_law_from := k_law_from
    f_law_names_of := f_law_names_of
    fd_law_names_of := _
    F_law_names_of := F_law_names_of
    b_law_names_of := b_law_names_of
    g_law_names_of := PySem.W.mg_of X G a_law_names_of
    k_law_names_of := k_law_names_of
    f_law_sound := f_law_sound
    fd_law_sound := _
    F_law_sound := F_law_sound
    b_law_sound := b_law_sound
    g_law_sound := PySem.W.mg_of X G a_law_sound
    k_law_sound := k_law_sound
    f_law_is_condition := f_law_is_condition
    fd_law_is_condition := _
    F_law_is_condition := F_law_is_condition
    b_law_is_condition := b_law_is_condition
    g_law_is_condition := PySem.W.mg_of X G a_law_is_condition
    k_law_is_condition := k_law_is_condition
    f_law_some_columns := f_law_some_columns
    fd_law_some_columns := _
    F_law_some_columns := F_law_some_columns
    b_law_some_columns := b_law_some_columns
    g_law_some_columns := PySem.W.mg_of X G a_law_some_columns
    k_law_some_columns := k_law_some_columns
    f_law := f_law
    fd_law := _
    F_law := F_law
    b_law := b_law
    g_law := PySem.W.mg_of X G a_law
    k_law := k_law }
  refine ⟨PySem.W.fnOf "law" "law" (defArgs s_law) (defBody s_law) (defScope s_law) .none kV_law dc_law pm_law an_law cd_law ct_law, fun s v => .of_eq rfl, fun base _ _ => ?_⟩
  have G_is_whole := ok_is_whole (P := l.prog) (w := w) (base := base) T 
  have G_word_of := ok_word_of (P := l.prog) (w := w) (base := base) T 
  have G_find_table := ok_find_table (P := l.prog) (w := w) (base := base) T 
  have G_column_names := ok_column_names (P := l.prog) (w := w) (base := base) T 
  have G_conditions_here := ok_conditions_here (P := l.prog) (w := w) (base := base) T 
  have G_law_cell_at := ok_law_cell_at (P := l.prog) (w := w) (base := base) T 
  have G_law_draws := ok_law_draws (P := l.prog) (w := w) (base := base) T 
  have G_law_name := ok_law_name (P := l.prog) (w := w) (base := base) T 
  have G_law_atom := ok_law_atom (P := l.prog) (w := w) (base := base) T 
  have G_law_odd := ok_law_odd (P := l.prog) (w := w) (base := base) T 
  have G_law_from := ok_law_from (P := l.prog) (w := w) (base := base) T 
  have G_law_names_of := ok_law_names_of (P := l.prog) (w := w) (base := base) T 
  have G_is_whole_within := ok_is_whole_within (P := l.prog) (w := w) (base := base) T G_is_whole
  have G_has_form := ok_has_form (P := l.prog) (w := w) (base := base) T G_word_of
  have G_names_table := ok_names_table (P := l.prog) (w := w) (base := base) T G_column_names G_find_table
  have G_parts_within := ok_parts_within (P := l.prog) (w := w) (base := base) T G_conditions_here G_column_names G_find_table
  have G_law_columns := ok_law_columns (P := l.prog) (w := w) (base := base) T G_law_name
  have G_law_condition := ok_law_condition (P := l.prog) (w := w) (base := base) T G_law_atom 12
  have G_law_new_names := ok_law_new_names (P := l.prog) (w := w) (base := base) T G_law_name
  have G_law_spoilt := ok_law_spoilt (P := l.prog) (w := w) (base := base) T G_law_odd 50
  have G_law_sound := ok_law_sound (P := l.prog) (w := w) (base := base) T G_law_from G_law_names_of 20
  have G_is_part := ok_is_part (P := l.prog) (w := w) (base := base) T G_is_whole_within G_names_table G_has_form
  have G_law_ground := ok_law_ground (P := l.prog) (w := w) (base := base) T G_law_name G_law_columns
  have G_law_some_columns := ok_law_some_columns (P := l.prog) (w := w) (base := base) T G_law_new_names
  have G_all_parts := ok_all_parts (P := l.prog) (w := w) (base := base) T G_parts_within G_is_part
  have G_bounded_parts := ok_bounded_parts (P := l.prog) (w := w) (base := base) T G_all_parts
  have G_is_condition := ok_is_condition (P := l.prog) (w := w) (base := base) T G_bounded_parts
  have G_law_is_condition := ok_law_is_condition (P := l.prog) (w := w) (base := base) T G_law_sound
  have G_law := ok_law (P := l.prog) (w := w) (base := base) T G_law_cell_at G_law_spoilt G_is_condition G_law_is_condition G_law_condition G_law_some_columns G_law_ground G_law_draws
  exact law_end G_law law_true
end Rv
open PyProof.Rows PySem PySem.W
set_option maxHeartbeats 0 in
theorem PySem.Challenge.cw_rowveil_k06_what_is_a_condition_holds : PySem.Challenge.rw_rowveil_k06_what_is_a_condition.Holds := by
  w_on; o_law; k_head
  (case hw => w_witness2)
  k_fill
  refine L2.walk_of (l := PySem.Challenge.rw_rowveil_k06_what_is_a_condition) (n := 63) (k := 53) (x := "script") (CX := fun _ => L2.CX0) (sp := fun w => Rv.spLaw _) rfl (by decide) rfl ⟨rfl, by decide, by decide⟩ (fun w h Y => PySem.W.kIn_of Y) ?F (fun _ _ a ns hl _ hS => ⟨a, ns, rfl, hS, hl, fun _ => rfl⟩) (fun _ _ _ _ _ h => h)
  case F =>
    intro w mg fa h KX G hmg
    refine' Rv.all_mk KX G hmg ?a_FORMS ?l_FORMS ?e_FORMS_0 ?e_FORMS_1 ?e_FORMS_2 ?e_FORMS_3 ?e_FORMS_4 ?e_FORMS_5 ?e_FORMS_6 ?e_FORMS_7 ?e_FORMS_8 ?e_FORMS_9 ?e_FORMS_10 ?x_FORMS ?y_FORMS ?a_MOST_VALUES ?l_MOST_VALUES ?x_MOST_VALUES ?y_MOST_VALUES ?a_MOST_CONDITIONS ?z_isinstance ?z_bool ?z_int ?z_str ?z_tuple ?z_len ?z_zip ?z_range ?z_min ?z_sorted ?z_any ?z_list ?z_all ?z_sum ?z_repr ?a_is_whole ?l_is_whole ?c_is_whole ?k_is_whole ?a_is_whole_within ?l_is_whole_within ?c_is_whole_within ?k_is_whole_within ?a_word_of ?l_word_of ?c_word_of ?k_word_of ?a_find_table ?l_find_table ?c_find_table ?k_find_table ?a_column_names ?l_column_names ?c_column_names ?k_column_names ?a_has_form ?l_has_form ?c_has_form ?k_has_form ?a_names_table ?l_names_table ?c_names_table ?k_names_table ?a_is_part ?l_is_part ?c_is_part ?k_is_part ?a_conditions_here ?l_conditions_here ?c_conditions_here ?k_conditions_here ?a_parts_within ?l_parts_within ?c_parts_within ?k_parts_within ?a_all_parts ?l_all_parts ?c_all_parts ?k_all_parts ?a_bounded_parts ?l_bounded_parts ?c_bounded_parts ?k_bounded_parts ?a_is_condition ?l_is_condition ?c_is_condition ?k_is_condition ?a_law_cell_at ?l_law_cell_at ?c_law_cell_at ?k_law_cell_at ?a_law_draws ?l_law_draws ?c_law_draws ?k_law_draws ?a_law_name ?l_law_name ?c_law_name ?k_law_name ?a_law_columns ?l_law_columns ?c_law_columns ?k_law_columns ?a_law_ground ?l_law_ground ?c_law_ground ?k_law_ground ?a_law_atom ?l_law_atom ?c_law_atom ?k_law_atom ?a_law_condition ?l_law_condition ?c_law_condition ?k_law_condition ?a_law_new_names ?l_law_new_names ?c_law_new_names ?k_law_new_names ?a_law_odd ?l_law_odd ?c_law_odd ?k_law_odd ?a_law_spoilt ?l_law_spoilt ?c_law_spoilt ?k_law_spoilt ?a_law_from ?l_law_from ?c_law_from ?k_law_from ?a_law_names_of ?l_law_names_of ?c_law_names_of ?k_law_names_of ?a_law_sound ?l_law_sound ?c_law_sound ?k_law_sound ?a_law_is_condition ?l_law_is_condition ?c_law_is_condition ?k_law_is_condition ?a_law_some_columns ?l_law_some_columns ?c_law_some_columns ?k_law_some_columns ?a_law ?l_law ?c_law ?k_law
    (case a_FORMS => k_is); (case l_FORMS => k_is); (case e_FORMS_0 => k_is); (case e_FORMS_1 => k_is); (case e_FORMS_2 => k_is); (case e_FORMS_3 => k_is); (case e_FORMS_4 => k_is); (case e_FORMS_5 => k_is); (case e_FORMS_6 => k_is); (case e_FORMS_7 => k_is); (case e_FORMS_8 => k_is); (case e_FORMS_9 => k_is); (case e_FORMS_10 => k_is); (case a_MOST_VALUES => k_is); (case l_MOST_VALUES => k_is); (case a_MOST_CONDITIONS => k_is); (case z_isinstance => k_is); (case z_bool => k_is); (case z_int => k_is); (case z_str => k_is); (case z_tuple => k_is); (case z_len => k_is); (case z_zip => k_is); (case z_range => k_is); (case z_min => k_is); (case z_sorted => k_is); (case z_any => k_is); (case z_list => k_is); (case z_all => k_is); (case z_sum => k_is); (case z_repr => k_is); (case a_is_whole => k_is); (case l_is_whole => k_is); (case c_is_whole => k_is); (case k_is_whole => k_is); (case a_is_whole_within => k_is); (case l_is_whole_within => k_is); (case c_is_whole_within => k_is); (case k_is_whole_within => k_is); (case a_word_of => k_is); (case l_word_of => k_is); (case c_word_of => k_is); (case k_word_of => k_is); (case a_find_table => k_is); (case l_find_table => k_is); (case c_find_table => k_is); (case k_find_table => k_is); (case a_column_names => k_is); (case l_column_names => k_is); (case c_column_names => k_is); (case k_column_names => k_is); (case a_has_form => k_is); (case l_has_form => k_is); (case c_has_form => k_is); (case k_has_form => k_is); (case a_names_table => k_is); (case l_names_table => k_is); (case c_names_table => k_is); (case k_names_table => k_is); (case a_is_part => k_is); (case l_is_part => k_is); (case c_is_part => k_is); (case k_is_part => k_is); (case a_conditions_here => k_is); (case l_conditions_here => k_is); (case c_conditions_here => k_is); (case k_conditions_here => k_is); (case a_parts_within => k_is); (case l_parts_within => k_is); (case c_parts_within => k_is); (case k_parts_within => k_is); (case a_all_parts => k_is); (case l_all_parts => k_is); (case c_all_parts => k_is); (case k_all_parts => k_is); (case a_bounded_parts => k_is); (case l_bounded_parts => k_is); (case c_bounded_parts => k_is); (case k_bounded_parts => k_is); (case a_is_condition => k_is); (case l_is_condition => k_is); (case c_is_condition => k_is); (case k_is_condition => k_is); (case a_law_cell_at => k_is); (case l_law_cell_at => k_is); (case c_law_cell_at => k_is); (case k_law_cell_at => k_is); (case a_law_draws => k_is); (case l_law_draws => k_is); (case c_law_draws => k_is); (case k_law_draws => k_is); (case a_law_name => k_is); (case l_law_name => k_is); (case c_law_name => k_is); (case k_law_name => k_is); (case a_law_columns => k_is); (case l_law_columns => k_is); (case c_law_columns => k_is); (case k_law_columns => k_is); (case a_law_ground => k_is); (case l_law_ground => k_is); (case c_law_ground => k_is); (case k_law_ground => k_is); (case a_law_atom => k_is); (case l_law_atom => k_is); (case c_law_atom => k_is); (case k_law_atom => k_is); (case a_law_condition => k_is); (case l_law_condition => k_is); (case c_law_condition => k_is); (case k_law_condition => k_is); (case a_law_new_names => k_is); (case l_law_new_names => k_is); (case c_law_new_names => k_is); (case k_law_new_names => k_is); (case a_law_odd => k_is); (case l_law_odd => k_is); (case c_law_odd => k_is); (case k_law_odd => k_is); (case a_law_spoilt => k_is); (case l_law_spoilt => k_is); (case c_law_spoilt => k_is); (case k_law_spoilt => k_is); (case a_law_from => k_is); (case l_law_from => k_is); (case c_law_from => k_is); (case k_law_from => k_is); (case a_law_names_of => k_is); (case l_law_names_of => k_is); (case c_law_names_of => k_is); (case k_law_names_of => k_is); (case a_law_sound => k_is); (case l_law_sound => k_is); (case c_law_sound => k_is); (case k_law_sound => k_is); (case a_law_is_condition => k_is); (case l_law_is_condition => k_is); (case c_law_is_condition => k_is); (case k_law_is_condition => k_is); (case a_law_some_columns => k_is); (case l_law_some_columns => k_is); (case c_law_some_columns => k_is); (case k_law_some_columns => k_is); (case a_law => k_is); (case l_law => k_is); (case c_law => k_is); (case k_law => k_is)
    case x_FORMS => exact ⟨⟨_, _, rfl, rfl⟩, ⟨_, _, rfl, rfl⟩, ⟨_, _, rfl, rfl⟩, ⟨_, _, rfl, rfl⟩, ⟨_, _, rfl, rfl⟩, ⟨_, _, rfl, rfl⟩, ⟨_, _, rfl, rfl⟩, ⟨_, _, rfl, rfl⟩, ⟨_, _, rfl, rfl⟩, ⟨_, _, rfl, rfl⟩, ⟨_, _, rfl, rfl⟩, trivial⟩
    case x_MOST_VALUES => exact ⟨⟨_, _, rfl, rfl⟩, ⟨_, _, rfl, rfl⟩, trivial⟩
    case y_FORMS => decide
    case y_MOST_VALUES => decide

