import PyProof.Rows.All
import Wide.All
import OpenK.AllK
import Wide.FinOn
import HandS.ForMost
import HandS.Flow
import HandS.Deep
import HandS.TupAny
import HandS.Wide
import HandS.IsInst
import HandS.Conv
import HandS.RaiseMore
import HandS.TupLe
import HandS.Zip
import HandS.Strs
import HandS.SetFor
import HandS.TupSets
import HandS.Dict
import HandS.Iter
import HandS.ReplaceLit
import HandS.ReplaceDef
import HandS.NoneIn
import KE.SortData
import KE.GoesEnum
import PyProof.Rows.NestShow
import HandS.Star
import HandS.Comp
import HandS.Exc
import HandS.ExcOwn
import HandS.WordsExc
import HandS.ExcCtx
import HandS.ExcValue
import HandS.ExcIs
import KE.LtData
import HandS.HotCalls
import HandS.FStr
import HandS.Defaults
import HandS.CallSlots
import HandS.MakeKwOnly
import PySem.Challenge.RW_rowveil_k03_all_worlds_by_hand
set_option Elab.async false
set_option linter.all false
set_option maxRecDepth 100000
namespace Rv
open PySem L2
/-! The data layer, part 1: data that are read off the heap, and what an owned list may change. -/

/-- a mirror's slots -/
abbrev En := List (Option PyData)

/-- what H tracks, later tracks too, unchanged -/
def Ex (H later : Hp) : Prop := ∀ (p : Addr) (thing : HO), H p = some thing → later p = some thing
theorem Ex.refl (H : Hp) : Ex H H := fun _ _ q => q
theorem Ex.trans {H1 H2 H3 : Hp} (f : Ex H1 H2) (g : Ex H2 H3) : Ex H1 H3 := fun p thing q => g p thing (f p thing q)
theorem Ex.new {H : Hp} {fresh : Addr} {thing : HO} (none_there : H fresh = none) : Ex H (upd H fresh thing) := fun p other q => by
  rw [upd_ne (ne_of_none q none_there)]
  exact q
theorem Ex.free {H H' : Hp} {p : Addr} (e : Ex H H') (h : H' p = none) : H p = none := by
  cases h1 : H p with
  | none => rfl
  | some o =>
    rw [e p o h1] at h
    cases h
theorem Ex.rd {H H' : Hp} {a : Addr} {u : HO} (e : Ex H H') (h : Rd H a u) : Rd H' a u := by
  rcases h with h | ⟨o, h⟩
  · exact .inl (e _ _ h)
  · exact .inr ⟨o, e _ _ h⟩
theorem Ex.sl {K : PySem.W.Frag} {H H' : Hp} {a : Addr} {xs : List V} (e : Ex H H') (h : SqL K H a xs) : SqL K H' a xs := by
  rcases h with h | h
  · exact .inl (e.rd h)
  · exact .inr h
theorem Ex.st {K : PySem.W.Frag} {H H' : Hp} {a : Addr} {xs : List V} (e : Ex H H') (h : SqT K H a xs) : SqT K H' a xs := by
  rcases h with h | h
  · exact .inl (e.rd h)
  · exact .inr h

section
variable {K : PySem.W.Frag} {H H' : Hp}
mutual
theorem dp_ex (e : Ex H H') : ∀ {v : V} {d : PyData}, Dp K H v d → Dp K H' v d
  | _, _, .non => .non
  | _, _, .bl b => .bl b
  | _, _, .int i => .int i
  | _, _, .str x => .str x
  | _, _, .lst h a => .lst (e.sl h) (dpAll_ex e a)
  | _, _, .tup h a => .tup (e.st h) (dpAll_ex e a)
theorem dpAll_ex (e : Ex H H') : ∀ {vs : List V} {ds : List PyData}, DpAll K H vs ds → DpAll K H' vs ds
  | _, _, .nil => .nil
  | _, _, .cons h a => .cons (dp_ex e h) (dpAll_ex e a)
end
theorem dpAll_len : ∀ {vs : List V} {ds : List PyData}, DpAll K H vs ds → vs.length = ds.length
  | _, _, .nil => rfl
  | _, _, .cons _ a => by rw [List.length_cons, List.length_cons, dpAll_len a]
theorem dpAll_get : ∀ {vs : List V} {ds : List PyData} {i : Nat} {v : V}, DpAll K H vs ds → vs[i]? = some v → ∃ d, ds[i]? = some d ∧ Dp K H v d
  | _, _, _, _, .nil, h => by simp at h
  | _, _, 0, _, .cons h _, e => by
    obtain rfl := Option.some.inj ((List.getElem?_cons_zero ..).symm.trans e)
    exact ⟨_, rfl, h⟩
  | _, _, i + 1, v, .cons _ a, e => by
    obtain ⟨d, h1, h2⟩ := dpAll_get (i := i) (v := v) a (by simpa using e)
    exact ⟨d, by simpa using h1, h2⟩
theorem dpAll_get' : ∀ {vs : List V} {ds : List PyData} {i : Nat} {d : PyData}, DpAll K H vs ds → ds[i]? = some d → ∃ v, vs[i]? = some v ∧ Dp K H v d
  | _, _, _, _, .nil, h => by simp at h
  | _, _, 0, _, .cons h _, e => by
    obtain rfl := Option.some.inj ((List.getElem?_cons_zero ..).symm.trans e)
    exact ⟨_, rfl, h⟩
  | _, _, i + 1, v, .cons _ a, e => by
    obtain ⟨d, h1, h2⟩ := dpAll_get' (i := i) (d := v) a (by simpa using e)
    exact ⟨d, by simpa using h1, h2⟩
theorem dpAll_app : ∀ {vs ws : List V} {ds es : List PyData}, DpAll K H vs ds → DpAll K H ws es → DpAll K H (vs ++ ws) (ds ++ es)
  | _, _, _, _, .nil, b => b
  | _, _, _, _, .cons h a, b => .cons h (dpAll_app a b)
theorem dpAll_take : ∀ {vs : List V} {ds : List PyData} (n : Nat), DpAll K H vs ds → DpAll K H (vs.take n) (ds.take n)
  | _, _, 0, _ => .nil
  | _, _, _ + 1, .nil => .nil
  | _, _, n + 1, .cons h a => .cons h (dpAll_take n a)
theorem dpAll_drop : ∀ {vs : List V} {ds : List PyData} (n : Nat), DpAll K H vs ds → DpAll K H (vs.drop n) (ds.drop n)
  | _, _, 0, a => a
  | _, _, _ + 1, .nil => .nil
  | _, _, n + 1, .cons _ a => dpAll_drop n a
theorem dpAll_set : ∀ {vs : List V} {ds : List PyData} (n : Nat) {v : V} {d : PyData}, DpAll K H vs ds → Dp K H v d → DpAll K H (vs.set n v) (ds.set n d)
  | _, _, _, _, _, .nil, _ => .nil
  | _, _, 0, _, _, .cons _ a, b => .cons b a
  | _, _, n + 1, _, _, .cons h a, b => .cons h (dpAll_set n a b)
theorem dpAll_rep : ∀ {vs : List V} {ds : List PyData} (n : Nat), DpAll K H vs ds → DpAll K H (List.replicate n vs).flatten (List.replicate n ds).flatten
  | _, _, 0, _ => .nil
  | _, _, n + 1, a => by
    simp only [List.replicate_succ, List.flatten_cons]
    exact dpAll_app a (dpAll_rep n a)
theorem dpAll_ints : ∀ {vs : List V} {ns : List Int}, DpAll K H vs (ns.map PyData.int) → vs = ns.map V.int
  | _, [], h => by
    have h' : DpAll K H _ [] := h
    cases h'
    rfl
  | _, n :: ns, h => by
    have h' : DpAll K H _ (PyData.int n :: ns.map PyData.int) := h
    cases h' with
    | cons h1 h2 =>
      cases h1
      rw [dpAll_ints h2]
      rfl
theorem dpAll_of_ints : ∀ (ns : List Int), DpAll K H (ns.map V.int) (ns.map PyData.int)
  | [] => .nil
  | n :: ns => .cons (.int n) (dpAll_of_ints ns)
theorem dpAll_bools : ∀ {vs : List V} {bs : List Bool}, DpAll K H vs (bs.map PyData.bool) → vs = bs.map V.bl
  | _, [], h => by
    have h' : DpAll K H _ [] := h
    cases h'
    rfl
  | _, n :: ns, h => by
    have h' : DpAll K H _ (PyData.bool n :: ns.map PyData.bool) := h
    cases h' with
    | cons h1 h2 =>
      cases h1
      rw [dpAll_bools h2]
      rfl
theorem dpAll_strs : ∀ {vs : List V} {ns : List Str}, DpAll K H vs (ns.map PyData.str) → vs = ns.map V.str
  | _, [], h => by
    have h' : DpAll K H _ [] := h
    cases h'
    rfl
  | _, n :: ns, h => by
    have h' : DpAll K H _ (PyData.str n :: ns.map PyData.str) := h
    cases h' with
    | cons h1 h2 =>
      cases h1
      rw [dpAll_strs h2]
      rfl
theorem dpAll_of_strs : ∀ (ns : List Str), DpAll K H (ns.map V.str) (ns.map PyData.str)
  | [] => .nil
  | n :: ns => .cons (.str n) (dpAll_of_strs ns)
end

/-! ### the heap without the owned -/
def cut (H : Hp) (O : List Addr) : Hp := fun a => if a ∈ O then none else H a
theorem cut_in {H : Hp} {O : List Addr} {a : Addr} (h : a ∈ O) : cut H O a = none := if_pos h
theorem cut_out {H : Hp} {O : List Addr} {a : Addr} (h : a ∉ O) : cut H O a = H a := if_neg h
theorem cut_ex {H : Hp} {O : List Addr} : Ex (cut H O) H := fun a o e => by
  by_cases h : a ∈ O
  · rw [cut_in h] at e
    cases e
  · rw [cut_out h] at e
    exact e
theorem cut_mono {H H' : Hp} {O : List Addr} (e : Ex H H') : Ex (cut H O) (cut H' O) := fun a o q => by
  by_cases h : a ∈ O
  · rw [cut_in h] at q
    cases q
  · rw [cut_out h] at q ⊢
    exact e a o q
theorem cut_less {H : Hp} {O O' : List Addr} (s : ∀ a ∈ O', a ∈ O) : Ex (cut H O) (cut H O') := fun a o q => by
  by_cases h : a ∈ O
  · rw [cut_in h] at q
    cases q
  · rw [cut_out h] at q
    rw [cut_out fun z => h (s a z)]
    exact q
/-- a new object beside the owned ones -/
theorem cut_new {H : Hp} {O : List Addr} {p : Addr} {o : HO} (ht : ∀ l ∈ O, ∃ u, H l = some u) (hp : H p = none) : cut (upd H p o) O p = some o := by
  have h : p ∉ O := fun z => by
    obtain ⟨u, e⟩ := ht p z
    rw [e] at hp
    cases hp
  rw [cut_out h, upd_same]
/-- a value that lies outside the owned, or an owned list whose items do -/
def Dq (K : PySem.W.Frag) (H : Hp) (O : List Addr) (v : V) (d : PyData) : Prop :=
  Dp K (cut H O) v d ∨ ∃ l xs ds, v = .ref l ∧ H l = some (.lst xs) ∧ d = .list ds ∧ DpAll K (cut H O) xs ds
theorem Dq.dp {K : PySem.W.Frag} {H : Hp} {O : List Addr} {v : V} {d : PyData} (h : Dq K H O v d) : Dp K H v d := by
  rcases h with h | ⟨l, xs, ds, rfl, hl, rfl, ha⟩
  · exact dp_ex cut_ex h
  · exact .lst (.inl (.inl hl)) (dpAll_ex cut_ex ha)
theorem Dq.ex {K : PySem.W.Frag} {H H' : Hp} {O : List Addr} {v : V} {d : PyData} (e : Ex H H') (h : Dq K H O v d) : Dq K H' O v d := by
  rcases h with h | ⟨l, xs, ds, rfl, hl, rfl, ha⟩
  · exact .inl (dp_ex (cut_mono e) h)
  · exact .inr ⟨l, xs, ds, rfl, e _ _ hl, rfl, dpAll_ex (cut_mono e) ha⟩
/-- the items of a list -/
theorem Dq.list {K : PySem.W.Frag} {H : Hp} {O : List Addr} {v : V} {ds : List PyData} (h : Dq K H O v (.list ds)) : ∃ a xs, v = .ref a ∧ SqL K H a xs ∧ DpAll K (cut H O) xs ds := by
  rcases h with h | ⟨l, xs, es, rfl, hl, he, ha⟩
  · cases h with
    | lst hs ha => exact ⟨_, _, rfl, cut_ex.sl hs, ha⟩
  · cases he
    exact ⟨l, xs, rfl, .inl (.inl hl), ha⟩
theorem Dq.tuple {K : PySem.W.Frag} {H : Hp} {O : List Addr} {v : V} {ds : List PyData} (h : Dq K H O v (.tuple ds)) : ∃ a xs, v = .ref a ∧ SqT K H a xs ∧ DpAll K (cut H O) xs ds ∧ SqT K (cut H O) a xs := by
  rcases h with h | ⟨l, xs, es, rfl, hl, he, ha⟩
  · cases h with
    | tup hs ha => exact ⟨_, _, rfl, cut_ex.st hs, ha, hs⟩
  · cases he
theorem Dq.int {K : PySem.W.Frag} {H : Hp} {O : List Addr} {v : V} {i : Int} (h : Dq K H O v (.int i)) : v = .int i := by
  rcases h with h | ⟨l, xs, es, rfl, hl, he, ha⟩
  · cases h
    rfl
  · cases he
theorem Dq.bool {K : PySem.W.Frag} {H : Hp} {O : List Addr} {v : V} {b : Bool} (h : Dq K H O v (.bool b)) : v = .bl b := by
  rcases h with h | ⟨l, xs, es, rfl, hl, he, ha⟩
  · cases h
    rfl
  · cases he
theorem Dq.str {K : PySem.W.Frag} {H : Hp} {O : List Addr} {v : V} {x : Str} (h : Dq K H O v (.str x)) : v = .str x := by
  rcases h with h | ⟨l, xs, es, rfl, hl, he, ha⟩
  · cases h
    rfl
  · cases he
theorem Dq.none {K : PySem.W.Frag} {H : Hp} {O : List Addr} {v : V} (h : Dq K H O v .none) : v = .non := by
  rcases h with h | ⟨l, xs, es, rfl, hl, he, ha⟩
  · cases h
    rfl
  · cases he
theorem Dq.dict {K : PySem.W.Frag} {H : Hp} {O : List Addr} {v : V} {kv} (h : Dq K H O v (.dict kv)) : False := by
  rcases h with h | ⟨l, xs, es, rfl, hl, he, ha⟩
  · cases h
  · cases he

end Rv
namespace Rv
open PySem L2
/-! The data layer, part 2: slots, expressions, statements and their mirrors. -/

/-- the keys of a dict of tuples, as data -/
def keyD : Key → PyData
  | .inl i => .int i
  | .inr x => .str x
/-- the entries of a dict whose keys are tuples -/
inductive KvD (K : PySem.W.Frag) (H : Hp) : List (List Key × V) → List (PyData × PyData) → Prop
  | nil : KvD K H [] []
  | cons {key : List Key} {v : V} {d : PyData} {kvs : List (List Key × V)} {es : List (PyData × PyData)} : Dp K H v d → KvD K H kvs es → KvD K H ((key, v) :: kvs) ((.tuple (key.map keyD), d) :: es)
theorem kvd_ex {K : PySem.W.Frag} {H H' : Hp} (e : Ex H H') : ∀ {kvs : List (List Key × V)} {es : List (PyData × PyData)}, KvD K H kvs es → KvD K H' kvs es
  | _, _, .nil => .nil
  | _, _, .cons h r => .cons (dp_ex e h) (kvd_ex e r)
/-- the entries of a dict whose keys are texts and whole numbers -/
inductive KvK (K : PySem.W.Frag) (H : Hp) : List (Key × V) → List (PyData × PyData) → Prop
  | nil : KvK K H [] []
  | cons {key : Key} {v : V} {d : PyData} {kvs : List (Key × V)} {es : List (PyData × PyData)} : Dp K H v d → KvK K H kvs es → KvK K H ((key, v) :: kvs) ((keyD key, d) :: es)
theorem kvk_ex {K : PySem.W.Frag} {H H' : Hp} (e : Ex H H') : ∀ {kvs : List (Key × V)} {es : List (PyData × PyData)}, KvK K H kvs es → KvK K H' kvs es
  | _, _, .nil => .nil
  | _, _, .cons h r => .cons (dp_ex e h) (kvk_ex e r)
/-- what an owned object holds: a list, a dict by tuples, a dict by texts -/
def OwD (K : PySem.W.Frag) (H : Hp) (kind : Nat) (o : HO) (d : PyData) : Prop := match kind with
  | 0 => ∃ xs ds, o = .lst xs ∧ d = .list ds ∧ DpAll K H xs ds
  | 1 => ∃ kvs es, o = .dT kvs ∧ d = .dict es ∧ KvD K H kvs es ∧ (kvs.map Prod.fst).Nodup
  | _ + 2 => ∃ kvs es, o = .dK kvs ∧ d = .dict es ∧ KvK K H kvs es
theorem OwD.ex {K : PySem.W.Frag} {H H' : Hp} {c : Nat} {o : HO} {d : PyData} (e : Ex H H') (h : OwD K H c o d) : OwD K H' c o d := by
  match c, h with
  | 0, h =>
    obtain ⟨xs, ds, h1, h2, h3⟩ := h
    exact ⟨xs, ds, h1, h2, dpAll_ex e h3⟩
  | 1, h =>
    obtain ⟨xs, ds, h1, h2, h3, h4⟩ := h
    exact ⟨xs, ds, h1, h2, kvd_ex e h3, h4⟩
  | _ + 2, h =>
    obtain ⟨xs, ds, h1, h2, h3⟩ := h
    exact ⟨xs, ds, h1, h2, kvk_ex e h3⟩
/-- what kind of own slot is i? (1000 + i: a dict by tuples; 2000 + i: one by texts) -/
def dictS (M : List Nat) (i : Nat) : Nat := if 1000 + i ∈ M then 1 else if 2000 + i ∈ M then 2 else 0
/-- the slots σ and the heap H hold what the mirror env says; M the slots of lists that are written; H0, O0: the heap and the owned ahead of the def -/
structure Sl (K : PySem.W.Frag) (M : List Nat) (H0 : Hp) (O0 O : List Addr) (σ : St) (H : Hp) (env : En) : Prop where
  ext : Ex H0 H
  fresh : ∀ l ∈ O, l ∈ O0 ∨ H0 l = none
  sub : ∀ l ∈ O0, l ∈ O
  there : ∀ l ∈ O, ∃ o, H l = some o
  sh : ∀ i d, env[i]? = some (some d) → i ∉ M → ∃ v, σ[i]? = some (some v) ∧ Dp K (cut H O) v d
  ow : ∀ i d, env[i]? = some (some d) → i ∈ M → ∃ l o, σ[i]? = some (some (.ref l)) ∧ l ∈ O ∧ l ∉ O0 ∧ H l = some o ∧ OwD K (cut H O) (dictS M i) o d
  inj : ∀ i j d e l, i ∈ M → j ∈ M → env[i]? = some (some d) → env[j]? = some (some e) → σ[i]? = some (some (.ref l)) → σ[j]? = some (some (.ref l)) → i = j
  len : σ.length = env.length
section
variable {K : PySem.W.Frag} {M : List Nat} {H0 : Hp} {O0 O : List Addr} {σ : St} {H H' : Hp} {env : En}
theorem Sl.ex (s : Sl K M H0 O0 O σ H env) (e : Ex H H') : Sl K M H0 O0 O σ H' env :=
  ⟨s.ext.trans e, s.fresh, s.sub, fun l h => by
    obtain ⟨o, q⟩ := s.there l h
    exact ⟨o, e _ _ q⟩, fun i d h n => by
    obtain ⟨v, h1, h2⟩ := s.sh i d h n
    exact ⟨v, h1, dp_ex (cut_mono e) h2⟩, fun i d h n => by
    obtain ⟨l, o, h1, h2, h3, h5, h6⟩ := s.ow i d h n
    exact ⟨l, o, h1, h2, h3, e _ _ h5, h6.ex (cut_mono e)⟩, s.inj, s.len⟩
/-- an own list -/
theorem Sl.lst (s : Sl K M H0 O0 O σ H env) {i : Nat} {d : PyData} (h : env[i]? = some (some d)) (hi : i ∈ M) (hn : dictS M i = 0) : ∃ l xs ds, σ[i]? = some (some (.ref l)) ∧ l ∈ O ∧ l ∉ O0 ∧ d = .list ds ∧ H l = some (.lst xs) ∧ DpAll K (cut H O) xs ds := by
  obtain ⟨l, o, h1, h2, h3, h5, h6⟩ := s.ow i d h hi
  rw [hn] at h6
  obtain ⟨xs, ds, rfl, h7, h8⟩ := h6
  exact ⟨l, xs, ds, h1, h2, h3, h7, h5, h8⟩
/-- an own dict by texts -/
theorem Sl.dkt (s : Sl K M H0 O0 O σ H env) {i : Nat} {d : PyData} (h : env[i]? = some (some d)) (hi : i ∈ M) (hn : dictS M i = 2) : ∃ l kvs es, σ[i]? = some (some (.ref l)) ∧ l ∈ O ∧ l ∉ O0 ∧ d = .dict es ∧ H l = some (.dK kvs) ∧ KvK K (cut H O) kvs es := by
  obtain ⟨l, o, h1, h2, h3, h5, h6⟩ := s.ow i d h hi
  rw [hn] at h6
  obtain ⟨xs, ds, rfl, h7, h8⟩ := h6
  exact ⟨l, xs, ds, h1, h2, h3, h7, h5, h8⟩
/-- an own dict -/
theorem Sl.dct (s : Sl K M H0 O0 O σ H env) {i : Nat} {d : PyData} (h : env[i]? = some (some d)) (hi : i ∈ M) (hn : dictS M i = 1) : ∃ l kvs es, σ[i]? = some (some (.ref l)) ∧ l ∈ O ∧ l ∉ O0 ∧ d = .dict es ∧ H l = some (.dT kvs) ∧ KvD K (cut H O) kvs es ∧ (kvs.map Prod.fst).Nodup := by
  obtain ⟨l, o, h1, h2, h3, h5, h6⟩ := s.ow i d h hi
  rw [hn] at h6
  obtain ⟨xs, ds, rfl, h7, h8⟩ := h6
  exact ⟨l, xs, ds, h1, h2, h3, h7, h5, h8⟩
theorem Sl.new (s : Sl K M H0 O0 O σ H env) {p : Addr} (h : H p = none) : p ∉ O := fun z => by
  obtain ⟨o, q⟩ := s.there p z
  rw [q] at h
  cases h
/-- a shared slot is written -/
theorem Sl.set (s : Sl K M H0 O0 O σ H env) {i : Nat} {v : V} {d : PyData} (hi : i ∉ M) (h : Dp K (cut H O) v d) : Sl K M H0 O0 O (σ.set i (some v)) H (env.set i (some d)) := by
  refine ⟨s.ext, s.fresh, s.sub, s.there, fun j e hj n => ?_, fun j e hj n => ?_, fun j k e e' l hj hk h1 h2 h3 h4 => ?_, by rw [List.length_set, List.length_set]; exact s.len⟩
  · by_cases z : i = j
    · subst z
      have hl : i < env.length := by
        by_cases q : i < env.length
        · exact q
        · rw [List.getElem?_eq_none (by rw [List.length_set]; omega)] at hj
          cases hj
      rw [List.getElem?_set_self hl] at hj
      have e1 : d = e := Option.some.inj (Option.some.inj hj)
      subst e1
      exact ⟨v, by rw [List.getElem?_set_self (by rw [s.len]; exact hl)], h⟩
    · rw [List.getElem?_set_ne z] at hj ⊢
      exact s.sh j e hj n
  · have z : i ≠ j := fun q => hi (q ▸ n)
    rw [List.getElem?_set_ne z] at hj ⊢
    exact s.ow j e hj n
  · have z : i ≠ j := fun q => hi (q ▸ hj)
    have y : i ≠ k := fun q => hi (q ▸ hk)
    rw [List.getElem?_set_ne z] at h1 h3
    rw [List.getElem?_set_ne y] at h2 h4
    exact s.inj j k e e' l hj hk h1 h2 h3 h4
/-- a slot is forgotten -/
theorem Sl.drop (s : Sl K M H0 O0 O σ H env) {i : Nat} {v : Option V} : Sl K M H0 O0 O (σ.set i v) H (env.set i none) := by
  have back : ∀ j e, (env.set i none)[j]? = some (some e) → i ≠ j ∧ env[j]? = some (some e) := fun j e hj => by
    by_cases z : i = j
    · subst z
      by_cases q : i < env.length
      · rw [List.getElem?_set_self q] at hj
        cases hj
      · rw [List.getElem?_eq_none (by rw [List.length_set]; omega)] at hj
        cases hj
    · rw [List.getElem?_set_ne z] at hj
      exact ⟨z, hj⟩
  refine ⟨s.ext, s.fresh, s.sub, s.there, fun j e hj n => ?_, fun j e hj n => ?_, fun j k e e' l hj hk h1 h2 h3 h4 => ?_, by rw [List.length_set, List.length_set]; exact s.len⟩
  · obtain ⟨z, hj⟩ := back j e hj
    rw [List.getElem?_set_ne z]
    exact s.sh j e hj n
  · obtain ⟨z, hj⟩ := back j e hj
    rw [List.getElem?_set_ne z]
    exact s.ow j e hj n
  · obtain ⟨z, h1⟩ := back j e h1
    obtain ⟨y, h2⟩ := back k e' h2
    rw [List.getElem?_set_ne z] at h3
    rw [List.getElem?_set_ne y] at h4
    exact s.inj j k e e' l hj hk h1 h2 h3 h4
theorem set_some {i j : Nat} {env : En} {x : Option PyData} {e : PyData} (h : (env.set i x)[j]? = some (some e)) : (i = j ∧ x = some e ∧ i < env.length) ∨ (i ≠ j ∧ env[j]? = some (some e)) := by
  by_cases z : i = j
  · subst z
    by_cases q : i < env.length
    · rw [List.getElem?_set_self q] at h
      exact .inl ⟨rfl, Option.some.inj h, q⟩
    · rw [List.getElem?_eq_none (by rw [List.length_set]; omega)] at h
      cases h
  · rw [List.getElem?_set_ne z] at h
    exact .inr ⟨z, h⟩
/-- a new list becomes a slot's own -/
theorem Sl.ownG (s : Sl K M H0 O0 O σ H env) {i : Nat} {p : Addr} {ob : HO} {db : PyData} (hi : i ∈ M) (hp : H p = none) (hx : Ex H H') (hl : H' p = some ob) (ha : OwD K (cut H' (p :: O)) (dictS M i) ob db) :
    Sl K M H0 O0 (p :: O) (σ.set i (some (.ref p))) H' (env.set i (some db)) := by
  have np := s.new hp
  have s' := s.ex hx
  have hcut : Ex (cut H O) (cut H' (p :: O)) := fun a o q => by
    by_cases z : a ∈ O
    · rw [cut_in z] at q
      cases q
    · rw [cut_out z] at q
      have za : a ≠ p := fun y => by rw [y, hp] at q; cases q
      rw [cut_out (by simp only [List.mem_cons, not_or]; exact ⟨za, z⟩)]
      exact hx a o q
  have hp0 : H0 p = none := s.ext.free hp
  have npo : p ∉ O0 := fun z => np (s.sub p z)
  refine ⟨s'.ext, fun l h => ?_, fun l h => List.mem_cons_of_mem _ (s.sub l h), fun l h => ?_, fun j e hj n => ?_, fun j e hj n => ?_, fun j k e e' l hj hk h1 h2 h3 h4 => ?_, by rw [List.length_set, List.length_set]; exact s.len⟩
  · rcases List.mem_cons.mp h with z | z
    · subst z
      exact .inr hp0
    · exact s.fresh l z
  · rcases List.mem_cons.mp h with z | z
    · subst z
      exact ⟨_, hl⟩
    · exact s'.there l z
  · rcases set_some hj with ⟨z, _, _⟩ | ⟨z, hj⟩
    · exact absurd (z ▸ hi) n
    · rw [List.getElem?_set_ne z]
      obtain ⟨v, h1, h2⟩ := s.sh j e hj n
      exact ⟨v, h1, dp_ex hcut h2⟩
  · rcases set_some hj with ⟨z, e1, q⟩ | ⟨z, hj⟩
    · subst z
      cases e1
      exact ⟨p, ob, List.getElem?_set_self (by rw [s.len]; exact q), List.mem_cons_self, npo, hl, ha⟩
    · rw [List.getElem?_set_ne z]
      obtain ⟨l, o, h1, h2, h3, h5, h6⟩ := s.ow j e hj n
      exact ⟨l, o, h1, List.mem_cons_of_mem _ h2, h3, hx _ _ h5, h6.ex hcut⟩
  · have other : ∀ a b, i ≠ a → a ∈ M → env[a]? = some (some b) → σ[a]? ≠ some (some (.ref p)) := fun a b _ ham hab q => by
      obtain ⟨l', _, g1, g2, _⟩ := s.ow a b hab ham
      rw [q] at g1
      have : p = l' := V.ref.inj (Option.some.inj (Option.some.inj g1))
      exact np (this ▸ g2)
    rcases set_some h1 with ⟨z, _, q⟩ | ⟨z, h1⟩
    · rcases set_some h2 with ⟨y, _, _⟩ | ⟨y, h2⟩
      · exact z.symm.trans y
      · subst z
        rw [List.getElem?_set_self (by rw [s.len]; exact q)] at h3
        have el : p = l := V.ref.inj (Option.some.inj (Option.some.inj h3))
        rw [List.getElem?_set_ne y, ← el] at h4
        exact absurd h4 (other k e' y hk h2)
    · rw [List.getElem?_set_ne z] at h3
      rcases set_some h2 with ⟨y, _, q⟩ | ⟨y, h2⟩
      · subst y
        rw [List.getElem?_set_self (by rw [s.len]; exact q)] at h4
        have el : p = l := V.ref.inj (Option.some.inj (Option.some.inj h4))
        rw [← el] at h3
        exact absurd h3 (other j e z hj h1)
      · rw [List.getElem?_set_ne y] at h4
        exact s.inj j k e e' l hj hk h1 h2 h3 h4
theorem cut_write {l : Addr} {o : HO} (h : l ∈ O) : cut (upd H l o) O = cut H O := by
  funext a
  by_cases z : a ∈ O
  · rw [cut_in z, cut_in z]
  · rw [cut_out z, cut_out z, upd_ne fun (y : a = l) => z (by rw [y]; exact h)]
theorem Sl.own (s : Sl K M H0 O0 O σ H env) {i : Nat} {p : Addr} {xs : List V} {ds : List PyData} (hi : i ∈ M) (hd : dictS M i = 0) (hp : H p = none) (hx : Ex H H') (hl : H' p = some (.lst xs)) (ha : DpAll K (cut H' (p :: O)) xs ds) :
    Sl K M H0 O0 (p :: O) (σ.set i (some (.ref p))) H' (env.set i (some (.list ds))) := s.ownG hi hp hx hl (by
  rw [hd]
  exact ⟨xs, ds, rfl, rfl, ha⟩)
/-- an own object is written -/
theorem Sl.writeG (s : Sl K M H0 O0 O σ H env) {i : Nat} {l : Addr} {ob : HO} {d db : PyData} (hi : i ∈ M) (he : env[i]? = some (some d)) (hs : σ[i]? = some (some (.ref l))) (hO : l ∈ O) (hn : l ∉ O0) (ha : OwD K (cut H O) (dictS M i) ob db) :
    Sl K M H0 O0 O σ (upd H l ob) (env.set i (some db)) := by
  have hc : cut (upd H l ob) O = cut H O := cut_write hO
  have h0 : H0 l = none := (s.fresh l hO).resolve_left hn
  refine ⟨fun a o q => ?_, s.fresh, s.sub, fun a h => ?_, fun j e hj n => ?_, fun j e hj n => ?_, fun j k e e' l' hj hk h1 h2 h3 h4 => ?_, by rw [List.length_set]; exact s.len⟩
  · rw [upd_ne fun z => by rw [z, h0] at q; cases q]
    exact s.ext a o q
  · by_cases z : a = l
    · subst z
      exact ⟨_, upd_same⟩
    · rw [upd_ne z]
      exact s.there a h
  · rcases set_some hj with ⟨z, _, _⟩ | ⟨z, hj⟩
    · exact absurd (z ▸ hi) n
    · rw [hc]
      exact s.sh j e hj n
  · rcases set_some hj with ⟨z, e1, q⟩ | ⟨z, hj⟩
    · subst z
      cases e1
      exact ⟨l, ob, hs, hO, hn, upd_same, by rw [hc]; exact ha⟩
    · obtain ⟨l', o', g1, g2, g3, g5, g6⟩ := s.ow j e hj n
      refine ⟨l', o', g1, g2, g3, ?_, by rw [hc]; exact g6⟩
      rw [upd_ne fun (y : l' = l) => z (s.inj i j d e l hi n he hj hs (by rw [← y]; exact g1))]
      exact g5
  · have up : ∀ a b, (env.set i (some db))[a]? = some (some b) → ∃ b', env[a]? = some (some b') := fun a b q => by
      rcases set_some q with ⟨z, _, _⟩ | ⟨z, q⟩
      · subst z
        exact ⟨d, he⟩
      · exact ⟨b, q⟩
    obtain ⟨b1, h1⟩ := up j e h1
    obtain ⟨b2, h2⟩ := up k e' h2
    exact s.inj j k b1 b2 l' hj hk h1 h2 h3 h4
/-- an own list is written -/
theorem Sl.write (s : Sl K M H0 O0 O σ H env) {i : Nat} {l : Addr} {xs : List V} {d : PyData} {ds : List PyData} (hi : i ∈ M) (hd : dictS M i = 0) (he : env[i]? = some (some d)) (hs : σ[i]? = some (some (.ref l))) (hO : l ∈ O) (hn : l ∉ O0) (ha : DpAll K (cut H O) xs ds) :
    Sl K M H0 O0 O σ (upd H l (.lst xs)) (env.set i (some (.list ds))) := s.writeG hi he hs hO hn (by
  rw [hd]
  exact ⟨xs, ds, rfl, rfl, ha⟩)
end

/-! ### the judgements of readings -/
/-- an expression's reading gives what its mirror says, outside the owned -/
def Snd (K : PySem.W.Frag) (M : List Nat) (t : TE) (m : En → Option PyData) : Prop :=
  ∀ H0 O0 O σ H env d, Sl K M H0 O0 O σ H env → m env = some d → ∀ Q : VK, (∀ v H2, Ex H H2 → Dp K (cut H2 O) v d → Q v H2) → t σ H Q
/-- .. or an own list itself -/
def SndQ (K : PySem.W.Frag) (M : List Nat) (t : TE) (m : En → Option PyData) : Prop :=
  ∀ H0 O0 O σ H env d, Sl K M H0 O0 O σ H env → m env = some d → ∀ Q : VK, (∀ v H2, Ex H H2 → Dq K H2 O v d → Q v H2) → t σ H Q
def SndT (K : PySem.W.Frag) (M : List Nat) (t : TT) (m : En → Option Bool) : Prop :=
  ∀ H0 O0 O σ H env b, Sl K M H0 O0 O σ H env → m env = some b → ∀ Q : Bool → Hp → Prop, (∀ H2, Ex H H2 → Q b H2) → t σ H Q
/-- arguments; those that may be own lists -/
def SndA (K : PySem.W.Frag) (M : List Nat) (t : TA) (m : En → Option (List PyData)) : Prop :=
  ∀ H0 O0 O σ H env ds, Sl K M H0 O0 O σ H env → m env = some ds → ∀ Q : List V → Hp → Prop, (∀ vs H2, Ex H H2 → DpAll K (cut H2 O) vs ds → Q vs H2) → t σ H Q
/-- how a block goes on -/
inductive Fl where
  | nx (env : En) | rt (d : PyData) | bk (env : En) | ct (env : En)
def Cont (K : PySem.W.Frag) (M : List Nat) (H0 : Hp) (O0 O : List Addr) (H : Hp) (D : Ends) : Fl → Prop
  | .nx env => ∀ σ' H' O', Sl K M H0 O0 O' σ' H' env → Ex (cut H O) (cut H' O') → D.nx σ' H'
  | .rt d => ∀ v H', Ex H0 H' → Dp K (cut H' O0) v d → D.rt v H'
  | .bk env => ∀ σ' H' O', Sl K M H0 O0 O' σ' H' env → Ex (cut H O) (cut H' O') → D.bk σ' H'
  | .ct env => ∀ σ' H' O', Sl K M H0 O0 O' σ' H' env → Ex (cut H O) (cut H' O') → D.ct σ' H'
def SndS (K : PySem.W.Frag) (M : List Nat) (t : TS) (m : En → Option Fl) : Prop :=
  ∀ H0 O0 O σ H env fl D, Sl K M H0 O0 O σ H env → m env = some fl → Cont K M H0 O0 O H D fl → t D σ H
/-- targets: the value, what the slots are then -/
def SndG (K : PySem.W.Frag) (M : List Nat) (g : TG) (b : PyData → En → Option En) : Prop :=
  ∀ H0 O0 O σ H env d env' v, Sl K M H0 O0 O σ H env → Dp K (cut H O) v d → b d env = some env' → ∀ Q : St → Hp → Prop, (∀ σ', Sl K M H0 O0 O σ' H env' → Q σ' H) → g v σ H Q

end Rv
namespace Rv
open PySem L2 PySem.Spec PyProof.Rows
/-! The data layer, part 3: expressions. A family X of contexts (a def's body, a comprehension's block) has one reading. -/

structure MD {ι : Type} (X : ι → Cx) (K : PySem.W.Frag) (M : List Nat) (e : Expr) (t : TE) (m : En → Option PyData) : Prop where
  pe : ∀ i, PE (X i) e t
  sd : Snd K M t m
structure MQ {ι : Type} (X : ι → Cx) (K : PySem.W.Frag) (M : List Nat) (e : Expr) (t : TE) (m : En → Option PyData) : Prop where
  pe : ∀ i, PE (X i) e t
  sd : SndQ K M t m
structure MT {ι : Type} (X : ι → Cx) (K : PySem.W.Frag) (M : List Nat) (e : Expr) (t : TT) (m : En → Option Bool) : Prop where
  pt : ∀ i, PT (X i) e t
  sd : SndT K M t m
structure MA {ι : Type} (X : ι → Cx) (K : PySem.W.Frag) (M : List Nat) (es : List Expr) (t : TA) (m : En → Option (List PyData)) : Prop where
  pa : ∀ i, PA (X i) es t
  sd : SndA K M t m
/-- what every context of a family has -/
structure Fam {ι : Type} (X : ι → Cx) (K : PySem.W.Frag) (N : List Str) (k : Nat) : Prop where
  hK : ∀ i, (X i).K = K
  calm : ∀ i, (X i).calm = true
  room : ∀ i, Room k (X i).A
  hN : ∀ i, (X i).N = N
  nd : N.Nodup
theorem Fam.u65 {ι : Type} {X : ι → Cx} {K : PySem.W.Frag} {N : List Str} {k : Nat} (F : Fam X K N k) (i : ι) : (X i).A.units + 65 < cLine := by
  have := (F.room i).un
  omega
theorem Fam.u64 {ι : Type} {X : ι → Cx} {K : PySem.W.Frag} {N : List Str} {k : Nat} (F : Fam X K N k) (i : ι) : (X i).A.units + 64 < cLine := by
  have := (F.room i).un
  omega

section
variable {ι : Type} {X : ι → Cx} {K : PySem.W.Frag} {N : List Str} {k : Nat} {M : List Nat} {a b c e : Expr} {ta tb tc te : TE} {ma mb mc me : En → Option PyData} {pos : Pos}

theorem snd_q {t : TE} {m : En → Option PyData} (h : Snd K M t m) : SndQ K M t m := fun H0 O0 O σ H env d s hm Q q =>
  h H0 O0 O σ H env d s hm Q fun v H2 e hv => q v H2 e (.inl hv)
theorem q_of (h : MD X K M e te me) : MQ X K M e te me := ⟨h.pe, snd_q h.sd⟩

/-! ### a name, a constant -/
def mVar (i : Nat) : En → Option PyData := fun env => (env[i]?).join
theorem join_some {α : Type} {x : Option (Option α)} {a : α} (h : x.join = some a) : x = some (some a) := by
  cases x with
  | none => cases h
  | some y =>
    cases y with
    | none => cases h
    | some z =>
      have : z = a := Option.some.inj h
      rw [this]
theorem d_var (i : Nat) {x : Str} (hi : i ∉ M := by decide) (hp : ∀ j, PE (X j) (.Name x pos) (tVar i) := by exact fun _ => pv _) : MD X K M (.Name x pos) (tVar i) (mVar i) :=
  ⟨hp, fun H0 O0 O σ H env d s hm Q q => by
    obtain ⟨v, h1, h2⟩ := s.sh i d (join_some hm) hi
    exact ⟨v, h1, q v H (Ex.refl H) h2⟩⟩
theorem q_var (i : Nat) {x : Str} (hi : i ∈ M := by decide) (hd : dictS M i = 0 := by decide) (hp : ∀ j, PE (X j) (.Name x pos) (tVar i) := by exact fun _ => pv _) : MQ X K M (.Name x pos) (tVar i) (mVar i) :=
  ⟨hp, fun H0 O0 O σ H env d s hm Q q => by
    obtain ⟨l, xs, ds, h1, h2, h3, h4, h5, h6⟩ := s.lst (join_some hm) hi hd
    exact ⟨_, h1, q _ H (Ex.refl H) (.inr ⟨l, xs, ds, rfl, h5, h4, h6⟩)⟩⟩
def mC (d : PyData) : En → Option PyData := fun _ => some d
theorem snd_c {v : V} {d : PyData} (h : ∀ H, Dp K H v d) : Snd K M (tC v) (mC d) := fun H0 O0 O σ H env d' s hm Q q => by
  have e : d = d' := Option.some.inj hm
  subst e
  exact q v H (Ex.refl H) (h _)
theorem d_int {i : Int} {j : Nat} : MD X K M (.Constant (.int i) j pos) (tC (.int i)) (mC (.int i)) := ⟨fun _ => pe_int, snd_c fun _ => .int i⟩
theorem d_str {x : Str} {j : Nat} : MD X K M (.Constant (.str x) j pos) (tC (.str x)) (mC (.str x)) := ⟨fun _ => pe_str, snd_c fun _ => .str x⟩
theorem d_bl {x : Bool} {j : Nat} : MD X K M (.Constant (.bool x) j pos) (tC (.bl x)) (mC (.bool x)) := ⟨fun _ => pe_bl, snd_c fun _ => .bl x⟩
theorem d_non {j : Nat} : MD X K M (.Constant .none j pos) (tC .non) (mC .none) := ⟨fun _ => pe_non, snd_c fun _ => .non⟩
/-- a module's own constant, data that stand in the written part -/
theorem d_glob {x : Str} {v : V} {d : PyData} (hd : ∀ H, Dp K H v d) (hp : ∀ j, PE (X j) (.Name x pos) (tC v)) : MD X K M (.Name x pos) (tC v) (mC d) := ⟨hp, snd_c hd⟩

/-! ### operators of two values -/
def OpD (K : PySem.W.Frag) (r : R2) (f : PyData → PyData → Option PyData) : Prop :=
  ∀ (H : Hp) (O : List Addr) x y d1 d2 d, (∀ l ∈ O, ∃ o, H l = some o) → Dq K H O x d1 → Dq K H O y d2 → f d1 d2 = some d → ∀ Q : VK, (∀ v H2, Ex H H2 → Dp K (cut H2 O) v d → Q v H2) → r x y H Q
def mBin (f : PyData → PyData → Option PyData) (ma mb : En → Option PyData) : En → Option PyData := fun env => (ma env).bind fun a => (mb env).bind fun b => f a b
theorem bind2 {α β γ : Type} {x : Option α} {y : Option β} {f : α → β → Option γ} {c : γ} (h : (x.bind fun a => y.bind fun b => f a b) = some c) : ∃ a b, x = some a ∧ y = some b ∧ f a b = some c := by
  cases x with
  | none => cases h
  | some a =>
    cases y with
    | none => cases h
    | some b => exact ⟨a, b, rfl, rfl, h⟩
theorem snd_op {r : R2} {f : PyData → PyData → Option PyData} (hf : OpD K r f) (ha : SndQ K M ta ma) (hb : SndQ K M tb mb) : Snd K M (tOp r ta tb) (mBin f ma mb) := fun H0 O0 O σ H env d s hm Q q => by
  obtain ⟨da, db, h1, h2, h3⟩ := bind2 hm
  refine ha H0 O0 O σ H env da s h1 _ fun x H1 e1 hx => ?_
  refine hb H0 O0 O σ H1 env db (s.ex e1) h2 _ fun y H2 e2 hy => ?_
  exact hf H2 O x y da db d ((s.ex e1).ex e2).there (hx.ex e2) hy h3 Q fun v H3 e3 hv => q v H3 ((e1.trans e2).trans e3) hv
theorem d_op {r : R2} {op : Operator} {f : PyData → PyData → Option PyData} (ho : ∀ i, OpR (X i) (binaryOp op) r) (hf : OpD K r f) (ha : MQ X K M a ta ma) (hb : MQ X K M b tb mb) : MD X K M (.BinOp a op b pos) (tOp r ta tb) (mBin f ma mb) :=
  ⟨fun i => pe_op (ho i) (ha.pe i) (hb.pe i), snd_op hf ha.sd hb.sd⟩
theorem d_cmp {r : R2} {op : CmpOp} {f : PyData → PyData → Option PyData} (ho : ∀ i, OpR (X i) (compareOp op) r) (hf : OpD K r f) (ha : MQ X K M a ta ma) (hb : MQ X K M b tb mb) (hm : behindInMarks op b = false := by first | exact nomark _ | rfl) : MD X K M (.Compare a [op] [b] pos) (tOp r ta tb) (mBin f ma mb) :=
  ⟨fun i => pe_cmpR (ho i) (ha.pe i) (hb.pe i) hm, snd_op hf ha.sd hb.sd⟩
theorem d_ix {r : R2} {f : PyData → PyData → Option PyData} (ho : ∀ i, IxR (X i) r) (hf : OpD K r f) (ha : MQ X K M a ta ma) (hb : MQ X K M b tb mb) (hp : PlainIx b := by exact fun _ _ => rfl) : MD X K M (.Subscript a b pos) (tOp r ta tb) (mBin f ma mb) :=
  ⟨fun i => pe_ix (ho i) (ha.pe i) (hb.pe i) hp, snd_op hf ha.sd hb.sd⟩
end

end Rv
namespace Rv
open PySem L2 PySem.Spec PyProof.Rows
/-! The data layer, part 4: the operators on data. -/

/-! ### lists of any kind joined -/
def rCatS (K : PySem.W.Frag) : R2 := fun x y H Q => ∃ l b xs zs, x = .ref l ∧ y = .ref b ∧ SqL K H l xs ∧ SqL K H b zs ∧ xs.length + zs.length ≤ sizeLine ∧ ∀ p, H p = none → Q (.ref p) (upd H p (.lst (xs ++ zs)))
theorem op_catS {X : Cx} : OpR X (binaryOp .Add) (rCatS X.K) := fun _ st _ _ _ _ _ _ _ inv rx ry ⟨p, q, xs, ys, ex, ey, hp, hq, small, wish⟩ => by
  subst ex ey
  obtain rfl := rx
  obtain rfl := ry
  obtain ⟨us, r1, ⟨⟨k1, d1, c1, sl1⟩, n1, at1, isl1, _, dat1⟩, _⟩ := inv.list hp
  obtain ⟨ws, r2, ⟨⟨k2, d2, c2, sl2⟩, n2, at2, isl2, _, dat2⟩, _⟩ := inv.list hq
  obtain rfl : k1 = .type "list" := isl1
  obtain rfl : k2 = .type "list" := isl2
  obtain rfl : c1 = .seq us.toArray n1 := dat1
  obtain rfl : c2 = .seq ws.toArray n2 := dat2
  have fits : us.toArray.size + ws.toArray.size ≤ sizeLine := by
    simp only [List.size_toArray, ← r1.length, ← r2.length]
    exact small
  have made := list_addW p q us.toArray ws.toArray n1 n2 d1 d2 sl1 sl2 fits
  refine concat_meets ⟨_, at1, rfl⟩ ⟨_, at2, rfl⟩ noFill_list_add seq_list_add PySem.F.slot_list_add PySem.F.entry_list_add (PySem.F.args_list_add_2 _ _) made ⟨at1, at2, ?_⟩
  simp only [List.append_toArray]
  have joined := inv.lnew (t' := st.toks) (r1.append r2) (by simp only [List.length_append]; exact small)
  exact ⟨.ref _, _, joined, rfl, wish _ inv.fresh⟩

section
variable {K : PySem.W.Frag}
theorem or_l {r r' : R2} {f : PyData → PyData → Option PyData} (h : OpD K r f) : OpD K (fun x y H Q => r x y H Q ∨ r' x y H Q) f := fun H O x y d1 d2 d ht h1 h2 hf Q q => .inl (h H O x y d1 d2 d ht h1 h2 hf Q q)

/-! ### + -/
def dAdd : PyData → PyData → Option PyData
  | .int i, .int j => some (.int (i + j))
  | .str x, .str y => if x.length + y.length ≤ sizeLine then some (.str (x ++ y)) else none
  | .list xs, .list ys => if xs.length + ys.length ≤ sizeLine then some (.list (xs ++ ys)) else none
  | .tuple xs, .tuple ys => if xs.length + ys.length ≤ sizeLine then some (.tuple (xs ++ ys)) else none
  | _, _ => none
def rAddI : R2 := rI0 fun i j => .int (i + j)
def rAddS : R2 := fun x y H Q => ∃ i j, x = .str i ∧ y = .str j ∧ i.length + j.length ≤ sizeLine ∧ Q (.str (i ++ j)) H
def rAdds (K : PySem.W.Frag) : R2 := fun x y H Q => rAddI x y H Q ∨ rAddS x y H Q ∨ rCatS K x y H Q ∨ rCatA K x y H Q
theorem op_adds {X : Cx} (hK : X.K = K) : OpR X (binaryOp .Add) (rAdds K) := by
  subst hK
  exact OpR.or op_add (OpR.or op_add_str (OpR.or op_catS op_catA))
theorem new_list {H : Hp} {O : List Addr} {xs : List V} {ds : List PyData} {p : Addr} (ht : ∀ l ∈ O, ∃ o, H l = some o) (hp : H p = none) (h : DpAll K (cut H O) xs ds) : Dp K (cut (upd H p (.lst xs)) O) (.ref p) (.list ds) :=
  .lst (.inl (.inl (cut_new ht hp))) (dpAll_ex (cut_mono (Ex.new hp)) h)
theorem new_tup {H : Hp} {O : List Addr} {xs : List V} {ds : List PyData} {p : Addr} (ht : ∀ l ∈ O, ∃ o, H l = some o) (hp : H p = none) (h : DpAll K (cut H O) xs ds) : Dp K (cut (upd H p (.tup xs)) O) (.ref p) (.tuple ds) :=
  .tup (.inl (.inl (cut_new ht hp))) (dpAll_ex (cut_mono (Ex.new hp)) h)
theorem ite_some {c : Prop} [Decidable c] {α : Type} {a b : α} (h : (if c then some a else none) = some b) : c ∧ a = b := by
  by_cases z : c
  · rw [if_pos z] at h
    exact ⟨z, Option.some.inj h⟩
  · rw [if_neg z] at h
    cases h
theorem opd_add : OpD K (rAdds K) dAdd := fun H O x y d1 d2 d ht h1 h2 hf Q q => by
  cases d1 with
  | int i =>
    cases d2 with
    | int j =>
      cases hf
      exact .inl ⟨i, j, h1.int, h2.int, q _ H (Ex.refl H) (.int _)⟩
    | _ => cases hf
  | str i =>
    cases d2 with
    | str j =>
      obtain ⟨hz, e⟩ := ite_some hf
      subst e
      exact .inr (.inl ⟨i, j, h1.str, h2.str, hz, q _ H (Ex.refl H) (.str _)⟩)
    | _ => cases hf
  | list xs =>
    cases d2 with
    | list ys =>
      obtain ⟨hz, e⟩ := ite_some hf
      subst e
      obtain ⟨a, vs, rfl, s1, a1⟩ := h1.list
      obtain ⟨b, ws, rfl, s2, a2⟩ := h2.list
      refine .inr (.inr (.inl ⟨a, b, vs, ws, rfl, rfl, s1, s2, by rw [dpAll_len a1, dpAll_len a2]; exact hz, fun p hp => q _ _ (Ex.new hp) ?_⟩))
      exact new_list ht hp (dpAll_app a1 a2)
    | _ => cases hf
  | tuple xs =>
    cases d2 with
    | tuple ys =>
      obtain ⟨hz, e⟩ := ite_some hf
      subst e
      obtain ⟨a, vs, rfl, s1, a1, c1⟩ := h1.tuple
      obtain ⟨b, ws, rfl, s2, a2, c2⟩ := h2.tuple
      refine .inr (.inr (.inr ⟨a, b, vs, ws, rfl, rfl, s1, s2, by rw [dpAll_len a1, dpAll_len a2]; exact hz, fun hn => ?_, fun hn hm => ?_, fun _ _ p hp => q _ _ (Ex.new hp) ?_⟩))
      · subst hn
        cases a1
        exact q _ H (Ex.refl H) (.tup c2 a2)
      · subst hm
        cases a2
        rw [List.append_nil] at q
        exact q _ H (Ex.refl H) (.tup c1 a1)
      · exact new_tup ht hp (dpAll_app a1 a2)
    | _ => cases hf
  | _ => cases hf

/-! ### numbers -/
def dI (C : Int → Int → Prop) [∀ i j, Decidable (C i j)] (g : Int → Int → PyData) : PyData → PyData → Option PyData
  | .int i, .int j => if C i j then some (g i j) else none
  | _, _ => none
theorem opd_I {C : Int → Int → Prop} [∀ i j, Decidable (C i j)] {g : Int → Int → V} {g' : Int → Int → PyData} (hg : ∀ i j H, Dp K H (g i j) (g' i j)) : OpD K (rI C g) (dI C g') := fun H O x y d1 d2 d ht h1 h2 hf Q q => by
  cases d1 with
  | int i =>
    cases d2 with
    | int j =>
      obtain ⟨hc, e⟩ := ite_some hf
      subst e
      exact ⟨i, j, h1.int, h2.int, hc, q _ H (Ex.refl H) (hg i j _)⟩
    | _ => cases hf
  | _ => cases hf
def dI0 (g : Int → Int → PyData) : PyData → PyData → Option PyData
  | .int i, .int j => some (g i j)
  | _, _ => none
theorem opd_I0 {g : Int → Int → V} {g' : Int → Int → PyData} (hg : ∀ i j H, Dp K H (g i j) (g' i j)) : OpD K (rI0 g) (dI0 g') := fun H O x y d1 d2 d ht h1 h2 hf Q q => by
  cases d1 with
  | int i =>
    cases d2 with
    | int j =>
      cases hf
      exact ⟨i, j, h1.int, h2.int, q _ H (Ex.refl H) (hg i j _)⟩
    | _ => cases hf
  | _ => cases hf
def dSub := dI0 fun i j => .int (i - j)
theorem opd_sub : OpD K (rI0 fun i j => .int (i - j)) dSub := opd_I0 fun _ _ _ => .int _
instance (i j : Int) : Decidable (CMul i j) := by unfold CMul; infer_instance
instance (i j : Int) : Decidable (CMulW i j) := by unfold CMulW; infer_instance
instance (i j : Int) : Decidable (CDivW i j) := by unfold CDivW; infer_instance
instance (i j : Int) : Decidable (CPow i j) := by unfold CPow; infer_instance
def CMulA (i j : Int) : Prop := CMul i j ∨ CMulW i j
instance (i j : Int) : Decidable (CMulA i j) := by unfold CMulA; infer_instance
def rMulA : R2 := rI CMulA fun i j => .int (i * j)
theorem op_mulA {X : Cx} : OpR X (binaryOp .Mult) rMulA := fun pins s σ H x y v u Q I rx ry h => by
  obtain ⟨i, j, e1, e2, hc | hc, q⟩ := h
  · exact op_mul pins s σ H x y v u Q I rx ry ⟨i, j, e1, e2, hc, q⟩
  · exact op_mulW pins s σ H x y v u Q I rx ry ⟨i, j, e1, e2, hc, q⟩
def dMul := dI CMulA fun i j => .int (i * j)
theorem opd_mul : OpD K rMulA dMul := opd_I fun _ _ _ => .int _
def dDiv := dI CDivW fun i j => .int (i / j)
theorem opd_div : OpD K (rI CDivW fun i j => .int (i / j)) dDiv := opd_I fun _ _ _ => .int _
def dMod := dI (fun _ j => 0 < j) fun i j => .int (i % j)
theorem opd_mod : OpD K (rI (fun _ j => 0 < j) fun i j => .int (i % j)) dMod := opd_I fun _ _ _ => .int _
def dPow := dI CPow fun i j => .int (i ^ j.toNat)
theorem opd_pow : OpD K (rI CPow fun i j => .int (i ^ j.toNat)) dPow := opd_I fun _ _ _ => .int _

/-! ### == and != at any depth -/
def dEq (a b : PyData) : Option PyData := if SeqAt.shaped a = true ∧ SeqAt.shaped b = true then some (.bool (PyData.eqv a b)) else none
def dNe (a b : PyData) : Option PyData := if SeqAt.shaped a = true ∧ SeqAt.shaped b = true then some (.bool (!PyData.eqv a b)) else none
theorem opd_eq : OpD K (rEqD K) dEq := fun H O x y d1 d2 d ht h1 h2 hf Q q => by
  obtain ⟨hc, e⟩ := ite_some hf
  subst e
  exact ⟨d1, d2, h1.dp, h2.dp, hc.1, hc.2, q _ H (Ex.refl H) (.bl _)⟩
theorem opd_ne : OpD K (rNeD K) dNe := fun H O x y d1 d2 d ht h1 h2 hf Q q => by
  obtain ⟨hc, e⟩ := ite_some hf
  subst e
  exact ⟨d1, d2, h1.dp, h2.dp, hc.1, hc.2, q _ H (Ex.refl H) (.bl _)⟩
theorem op_eqK {X : Cx} (hK : X.K = K) (hu : X.A.units + 64 < cLine) : OpR X (compareOp .Eq) (rEqD K) := by
  subst hK
  exact op_eqD hu
theorem op_neK {X : Cx} (hK : X.K = K) (hu : X.A.units + 64 < cLine) : OpR X (compareOp .NotEq) (rNeD K) := by
  subst hK
  exact op_neD hu

/-! ### order -/
def rLts : R2 := fun x y H Q => rI0 (fun i j => .bl (decide (i < j))) x y H Q ∨ ∃ i j, x = .str i ∧ y = .str j ∧ Q (.bl (decide (i.cps.toList < j.cps.toList))) H
/-- a < b of alike data of any kind but None -/
def rLtD (K : PySem.W.Frag) : R2 := fun x y H Q => ∃ d e, Dp K H x d ∧ Dp K H y e ∧ PySem.W.alike d e = true ∧ d ≠ .none ∧ d.depth ≤ 64 ∧ Q (.bl (PySem.W.dataLt d e)) H
theorem op_ltD {X : Cx} (hu : X.A.units + 64 < cLine) : OpR X (compareOp .Lt) (rLtD X.K) := fun _ st _ H x y v u _ inv rx ry ⟨d1, d2, p1, p2, same, some_, flat, wish⟩ => by
  obtain ⟨as, reads1⟩ := Dp.reads inv d1 x v p1 rx
  obtain ⟨bs, reads2⟩ := Dp.reads inv d2 y u p2 ry
  have small : min d1.depth d2.depth ≤ d1.depth := Nat.min_le_left _ _
  exact PySem.W.rcLt_alike d1 d2 X.A st v u as bs reads1 reads2 same some_ (by omega) X.prog X.w X.xe _ ⟨.bl _, H, inv, rfl, wish⟩
theorem op_ltK {X : Cx} (hK : X.K = K) (hu : X.A.units + 64 < cLine) : OpR X (compareOp .Lt) (rLtD K) := by
  subst hK
  exact op_ltD hu
def dLt (a b : PyData) : Option PyData :=
  match a, b with
  | .int i, .int j => some (.bool (decide (i < j)))
  | .str x, .str y => some (.bool (decide (x.cps.toList < y.cps.toList)))
  | .tuple xs, .tuple ys => if PySem.W.alikeAll xs ys = true ∧ (PyData.tuple xs).depth ≤ 64 then some (.bool (PySem.W.dataLt (.tuple xs) (.tuple ys))) else none
  | _, _ => none
def rLtAll (K : PySem.W.Frag) : R2 := fun x y H Q => rI0 (fun i j => .bl (decide (i < j))) x y H Q ∨ (∃ i j, x = .str i ∧ y = .str j ∧ Q (.bl (decide (i.cps.toList < j.cps.toList))) H) ∨ rLtD K x y H Q
theorem op_ltAll {X : Cx} (hK : X.K = K) (hu : X.A.units + 64 < cLine) : OpR X (compareOp .Lt) (rLtAll K) := OpR.or op_lt (OpR.or op_lt_str (op_ltK hK hu))
theorem opd_lt : OpD K (rLtAll K) dLt := fun H O x y d1 d2 d ht h1 h2 hf Q q => by
  cases d1 with
  | int i =>
    cases d2 with
    | int j =>
      cases hf
      exact .inl ⟨i, j, h1.int, h2.int, q _ H (Ex.refl H) (.bl _)⟩
    | _ => cases hf
  | str i =>
    cases d2 with
    | str j =>
      cases hf
      exact .inr (.inl ⟨i, j, h1.str, h2.str, q _ H (Ex.refl H) (.bl _)⟩)
    | _ => cases hf
  | tuple xs =>
    cases d2 with
    | tuple ys =>
      obtain ⟨⟨ha, hz⟩, e⟩ := ite_some hf
      subst e
      exact .inr (.inr ⟨_, _, h1.dp, h2.dp, (by rw [PySem.W.alike]; exact ha), (fun z => by cases z), hz, q _ H (Ex.refl H) (.bl _)⟩)
    | _ => cases hf
  | _ => cases hf
def dLe := dI0 fun i j => .bool (decide (i ≤ j))
theorem opd_le : OpD K (rI0 fun i j => .bl (decide (i ≤ j))) dLe := opd_I0 fun _ _ _ => .bl _
def dGt := dI0 fun i j => .bool (decide (j < i))
theorem opd_gt : OpD K (rI0 fun i j => .bl (decide (j < i))) dGt := opd_I0 fun _ _ _ => .bl _
def dGe := dI0 fun i j => .bool (decide (j ≤ i))
theorem opd_ge : OpD K (rI0 fun i j => .bl (decide (j ≤ i))) dGe := opd_I0 fun _ _ _ => .bl _

/-! ### items -/
def dIx (a b : PyData) : Option PyData :=
  match a, b with
  | .list xs, .int i => atI xs i
  | .tuple xs, .int i => atI xs i
  | .str x, .int i => if x.length ≤ sizeLine then (atI x.cps.toList i).map fun c => .str ⟨#[c]⟩ else none
  | _, _ => none
theorem ix_seqK {X : Cx} (hK : X.K = K) : IxR X (rIx K) := by
  subst hK
  exact ix_seq
theorem atI_rel {H : Hp} {xs : List V} {ds : List PyData} {i : Int} {d : PyData} (h : DpAll K H xs ds) (e : atI ds i = some d) : ∃ v, atI xs i = some v ∧ Dp K H v d := by
  unfold atI at e ⊢
  rw [dpAll_len h]
  cases hj : ixN ds.length i with
  | none =>
    rw [hj] at e
    cases e
  | some j =>
    rw [hj] at e
    exact dpAll_get' h e
theorem opd_ix : OpD K (rIx K) dIx := fun H O x y d1 d2 d ht h1 h2 hf Q q => by
  cases d1 with
  | list xs =>
    cases d2 with
    | int i =>
      obtain ⟨a, vs, rfl, s1, a1⟩ := h1.list
      obtain ⟨v, e, hv⟩ := atI_rel a1 hf
      exact .inl ⟨a, vs, i, v, rfl, h2.int, s1, e, q _ H (Ex.refl H) hv⟩
    | _ => cases hf
  | tuple xs =>
    cases d2 with
    | int i =>
      obtain ⟨a, vs, rfl, s1, a1, _⟩ := h1.tuple
      obtain ⟨v, e, hv⟩ := atI_rel a1 hf
      exact .inr (.inl ⟨a, vs, i, v, rfl, h2.int, s1, e, q _ H (Ex.refl H) hv⟩)
    | _ => cases hf
  | str x =>
    cases d2 with
    | int i =>
      have hf' : (if x.length ≤ sizeLine then (atI x.cps.toList i).map fun c => PyData.str ⟨#[c]⟩ else none) = some d := hf
      by_cases hz : x.length ≤ sizeLine
      · rw [if_pos hz] at hf'
        cases hc : atI x.cps.toList i with
        | none =>
          rw [hc] at hf'
          cases hf'
        | some c =>
          rw [hc] at hf'
          cases hf'
          exact .inr (.inr ⟨x, i, c, h1.str, h2.int, hz, hc, q _ H (Ex.refl H) (.str _)⟩)
      · rw [if_neg hz] at hf'
        cases hf'
    | _ => cases hf
  | _ => cases hf
end

end Rv
namespace Rv
open PySem L2 PySem.Spec PyProof.Rows
/-! The data layer, part 5: slices, displays, calls, tests. -/

section
variable {ι : Type} {X : ι → Cx} {K : PySem.W.Frag} {N : List Str} {k : Nat} {M : List Nat} {a b c e : Expr} {ta tb tc te : TE} {ma mb mc me : En → Option PyData} {pos : Pos}

/-! ### slices -/
def cutD (xs : List PyData) (lo hi : Option Int) : List PyData := (xs.drop (HT.sIx xs.length 0 lo)).take (HT.sIx xs.length xs.length hi - HT.sIx xs.length 0 lo)
theorem dpAll_cut {H : Hp} {xs : List V} {ds : List PyData} (h : DpAll K H xs ds) (lo hi : Option Int) : DpAll K H (cutV xs lo hi) (cutD ds lo hi) := by
  unfold cutV cutD
  rw [dpAll_len h]
  exact dpAll_take _ (dpAll_drop _ h)
def dSl (d : PyData) (lo hi : Option Int) : Option PyData :=
  match d with
  | .list xs => some (.list (cutD xs lo hi))
  | .tuple xs => some (.tuple (cutD xs lo hi))
  | .str z => if z.length ≤ sizeLine then some (.str (cutS z lo hi)) else none
  | _ => none
def rSls (K : PySem.W.Frag) : V → Option Int → Option Int → Hp → VK → Prop := fun x lo hi H Q => rSlL K x lo hi H Q ∨ rSlA K x lo hi H Q ∨ rSlS x lo hi H Q
theorem sl_all {Y : Cx} (hK : Y.K = K) : SlR Y (rSls K) := by
  subst hK
  exact SlR.or sl_list (SlR.or sl_tupA sl_str)
def SndO (K : PySem.W.Frag) (M : List Nat) (t : TO) (m : En → Option (Option Int)) : Prop :=
  ∀ H0 O0 O σ H env o, Sl K M H0 O0 O σ H env → m env = some o → ∀ Q : Option Int → Hp → Prop, (∀ H2, Ex H H2 → Q o H2) → t σ H Q
structure MO {ι : Type} (X : ι → Cx) (K : PySem.W.Frag) (M : List Nat) (e : Option Expr) (t : TO) (m : En → Option (Option Int)) : Prop where
  po : ∀ i, PO (X i) e t
  sd : SndO K M t m
def mNoPart : En → Option (Option Int) := fun _ => some none
def mPart (m : En → Option PyData) : En → Option (Option Int) := fun env => (m env).bind fun d => match d with | .int i => some (some i) | _ => none
theorem o_none : MO X K M none tNoPart mNoPart := ⟨fun _ => po_none, fun H0 O0 O σ H env o s hm Q q => by
  cases hm
  exact q H (Ex.refl H)⟩
theorem o_some (h : MD X K M e te me) : MO X K M (some e) (tPart te) (mPart me) := ⟨fun i => po_some (h.pe i), fun H0 O0 O σ H env o s hm Q q => by
  unfold mPart at hm
  cases hd : me env with
  | none =>
    rw [hd] at hm
    cases hm
  | some d =>
    rw [hd] at hm
    cases d with
    | int i =>
      cases hm
      refine h.sd H0 O0 O σ H env (.int i) s hd _ fun v H2 e hv => ?_
      cases hv
      exact ⟨i, rfl, q H2 e⟩
    | _ => cases hm⟩
theorem bind1 {α β : Type} {x : Option α} {f : α → Option β} {c : β} (h : x.bind f = some c) : ∃ a, x = some a ∧ f a = some c := by
  cases x with
  | none => cases h
  | some a => exact ⟨a, rfl, h⟩
def mSl (m : En → Option PyData) (l h : En → Option (Option Int)) : En → Option PyData := fun env => (m env).bind fun d => (l env).bind fun lo => (h env).bind fun hi => dSl d lo hi
theorem d_sl (F : Fam X K N k) {lo hi : Option Expr} {p2 : Pos} {tl th : TO} {ml mh : En → Option (Option Int)} (ha : MQ X K M a ta ma) (hl : MO X K M lo tl ml) (hh : MO X K M hi th mh) : MD X K M (.Subscript a (.Slice lo hi none p2) pos) (tSl (rSls K) ta tl th) (mSl ma ml mh) :=
  ⟨fun i => pe_slice (sl_all (F.hK i)) (ha.pe i) (hl.po i) (hh.po i), fun H0 O0 O σ H env d s hm Q q => by
    obtain ⟨d1, h1, hm⟩ := bind1 hm
    obtain ⟨l, u, h2, h3, h4⟩ := bind2 hm
    · refine ha.sd H0 O0 O σ H env d1 s h1 _ fun x H1 e1 hx => ?_
      refine hl.sd H0 O0 O σ H1 env l (s.ex e1) h2 _ fun H2 e2 => ?_
      refine hh.sd H0 O0 O σ H2 env u ((s.ex e1).ex e2) h3 _ fun H3 e3 => ?_
      have s3 := ((s.ex e1).ex e2).ex e3
      have hx3 := (hx.ex e2).ex e3
      have e13 := (e1.trans e2).trans e3
      cases d1 with
      | list ds =>
        cases h4
        obtain ⟨p, vs, rfl, s1, a1⟩ := hx3.list
        exact .inl ⟨p, vs, rfl, s1, fun p' hp => q _ _ (e13.trans (Ex.new hp)) (new_list s3.there hp (dpAll_cut a1 _ _))⟩
      | tuple ds =>
        cases h4
        obtain ⟨p, vs, rfl, s1, a1, c1⟩ := hx3.tuple
        refine .inr (.inl ⟨p, vs, rfl, s1, fun hw => q _ _ e13 ?_, fun _ p' hp => q _ _ (e13.trans (Ex.new hp)) (new_tup s3.there hp (dpAll_cut a1 _ _))⟩)
        have ew : cutV vs l u = vs := by
          unfold cutV
          rw [hw.1, hw.2]
          simp
        have := dpAll_cut a1 l u
        rw [ew] at this
        exact .tup c1 this
      | str z =>
        obtain ⟨hz, e⟩ := ite_some h4
        subst e
        exact .inr (.inr ⟨z, hx3.str, hz, q _ _ e13 (.str _)⟩)
      | _ => cases h4⟩

/-! ### argument lists -/
def mNil : En → Option (List PyData) := fun _ => some []
def mCons (m : En → Option PyData) (ms : En → Option (List PyData)) : En → Option (List PyData) := fun env => (m env).bind fun d => (ms env).bind fun ds => some (d :: ds)
theorem a_nil : MA X K M [] tNil mNil := ⟨fun _ => pa_nil, fun H0 O0 O σ H env ds s hm Q q => by
  cases hm
  exact q [] H (Ex.refl H) .nil⟩
theorem a_cons {es : List Expr} {tr : TA} {mr : En → Option (List PyData)} (h : MD X K M e te me) (hr : MA X K M es tr mr) (hs : ∀ i, starEach (e :: es) (X i).env = (false, eval e (X i).env) :: starEach es (X i).env := by exact fun _ => rfl) : MA X K M (e :: es) (tCons te tr) (mCons me mr) :=
  ⟨fun i => pa_cons (h.pe i) (hr.pa i) (hs i), fun H0 O0 O σ H env ds s hm Q q => by
    obtain ⟨d, r, h1, h2, h3⟩ := bind2 hm
    cases h3
    refine h.sd H0 O0 O σ H env d s h1 _ fun x H1 e1 hx => ?_
    exact hr.sd H0 O0 O σ H1 env r (s.ex e1) h2 _ fun xs H2 e2 hxs => q _ H2 (e1.trans e2) (.cons (dp_ex (cut_mono e2) hx) hxs)⟩
inductive DqAll (K : PySem.W.Frag) (H : Hp) (O : List Addr) : List V → List PyData → Prop
  | nil : DqAll K H O [] []
  | cons {v : V} {vs : List V} {d : PyData} {ds : List PyData} : Dq K H O v d → DqAll K H O vs ds → DqAll K H O (v :: vs) (d :: ds)
structure MB {ι : Type} (X : ι → Cx) (K : PySem.W.Frag) (M : List Nat) (es : List Expr) (t : TA) (m : En → Option (List PyData)) : Prop where
  pa : ∀ i, PA (X i) es t
  sd : ∀ H0 O0 O σ H env ds, Sl K M H0 O0 O σ H env → m env = some ds → ∀ Q : List V → Hp → Prop, (∀ vs H2, Ex H H2 → DqAll K H2 O vs ds → Q vs H2) → t σ H Q
theorem b_nil : MB X K M [] tNil mNil := ⟨fun _ => pa_nil, fun H0 O0 O σ H env ds s hm Q q => by
  cases hm
  exact q [] H (Ex.refl H) .nil⟩
theorem b_cons {es : List Expr} {tr : TA} {mr : En → Option (List PyData)} (h : MQ X K M e te me) (hr : MB X K M es tr mr) (hs : ∀ i, starEach (e :: es) (X i).env = (false, eval e (X i).env) :: starEach es (X i).env := by exact fun _ => rfl) : MB X K M (e :: es) (tCons te tr) (mCons me mr) :=
  ⟨fun i => pa_cons (h.pe i) (hr.pa i) (hs i), fun H0 O0 O σ H env ds s hm Q q => by
    obtain ⟨d, r, h1, h2, h3⟩ := bind2 hm
    cases h3
    refine h.sd H0 O0 O σ H env d s h1 _ fun x H1 e1 hx => ?_
    exact hr.sd H0 O0 O σ H1 env r (s.ex e1) h2 _ fun xs H2 e2 hxs => q _ H2 (e1.trans e2) (.cons (hx.ex e2) hxs)⟩

/-! ### displays -/
def mTup (ms : En → Option (List PyData)) : En → Option PyData := fun env => (ms env).bind fun ds => if ds.length ≤ sizeLine then some (.tuple ds) else none
def mLst (ms : En → Option (List PyData)) : En → Option PyData := fun env => (ms env).bind fun ds => if ds.length ≤ sizeLine then some (.list ds) else none
theorem d_tup {es : List Expr} {x1 : Nat} {t : TA} {ms : En → Option (List PyData)} (h : MA X K M es t ms) : MD X K M (.Tuple es x1 pos) (tTup t) (mTup ms) := ⟨fun i => pe_tup (h.pa i), fun H0 O0 O σ H env d s hm Q q => by
  obtain ⟨ds, h1, h2⟩ := bind1 hm
  obtain ⟨hz, e⟩ := ite_some h2
  subst e
  exact h.sd H0 O0 O σ H env ds s h1 _ fun vs H1 e1 hv => ⟨by rw [dpAll_len hv]; exact hz, fun p hp => q _ _ (e1.trans (Ex.new hp)) (new_tup (s.ex e1).there hp hv)⟩⟩
theorem d_lst {es : List Expr} {t : TA} {ms : En → Option (List PyData)} (h : MA X K M es t ms) : MD X K M (.List es pos) (tLst t) (mLst ms) := ⟨fun i => pe_lst (h.pa i), fun H0 O0 O σ H env d s hm Q q => by
  obtain ⟨ds, h1, h2⟩ := bind1 hm
  obtain ⟨hz, e⟩ := ite_some h2
  subst e
  exact h.sd H0 O0 O σ H env ds s h1 _ fun vs H1 e1 hv => ⟨by rw [dpAll_len hv]; exact hz, fun p hp => q _ _ (e1.trans (Ex.new hp)) (new_list (s.ex e1).there hp hv)⟩⟩
/-- [a, ..] * n -/
def mRep (ms : En → Option (List PyData)) (mn : En → Option PyData) : En → Option PyData := fun env => (ms env).bind fun ds => (mn env).bind fun n => match n with
  | .int j => if ds.length ≤ sizeLine ∧ -(2 ^ 63) ≤ j ∧ j < 2 ^ 63 ∧ ds.length * j.toNat ≤ sizeLine then some (.list (List.replicate j.toNat ds).flatten) else none
  | _ => none
theorem d_rep {es : List Expr} {t : TA} {ms : En → Option (List PyData)} {p1 : Pos} (h : MA X K M es t ms) (hb : MD X K M b tb mb) : MD X K M (.BinOp (.List es p1) .Mult b pos) (tOp rRep (tLst t) tb) (mRep ms mb) := ⟨fun i => pe_op op_rep (pe_lst (h.pa i)) (hb.pe i), fun H0 O0 O σ H env d s hm Q q => by
  obtain ⟨ds, n, h1, h2, h3⟩ := bind2 hm
  cases n with
  | int j =>
    obtain ⟨⟨z0, z1, z2, z3⟩, e⟩ := ite_some h3
    subst e
    refine h.sd H0 O0 O σ H env ds s h1 _ fun vs H1 e1 hv => ⟨by rw [dpAll_len hv]; exact z0, fun p hp => ?_⟩
    have s1 := s.ex (e1.trans (Ex.new (thing := .lst vs) hp))
    refine hb.sd H0 O0 O σ _ env (.int j) s1 h2 _ fun y H2 e2 hy => ?_
    cases hy
    refine ⟨p, j, vs, rfl, rfl, e2 _ _ upd_same, z1, z2, by rw [dpAll_len hv]; exact z3, fun p' hp' => q _ _ ((e1.trans (Ex.new hp)).trans (e2.trans (Ex.new hp'))) ?_⟩
    exact new_list (s1.ex e2).there hp' (dpAll_rep _ (dpAll_ex (cut_mono ((Ex.new hp).trans e2)) hv))
  | _ => cases h3⟩

/-! ### calls of built-ins -/
def CrD (K : PySem.W.Frag) (r : List V → Hp → VK → Prop) (f : List PyData → Option PyData) : Prop :=
  ∀ (H : Hp) (O : List Addr) vs ds d, (∀ l ∈ O, ∃ o, H l = some o) → DqAll K H O vs ds → f ds = some d → ∀ Q : VK, (∀ v H2, Ex H H2 → Dp K (cut H2 O) v d → Q v H2) → r vs H Q
def mCB (f : List PyData → Option PyData) (ms : En → Option (List PyData)) : En → Option PyData := fun env => (ms env).bind f
theorem snd_cb {r : List V → Hp → VK → Prop} {f : List PyData → Option PyData} {es : List Expr} {t : TA} {ms : En → Option (List PyData)} (hf : CrD K r f) (h : MB X K M es t ms) : Snd K M (tCB r t) (mCB f ms) := fun H0 O0 O σ H env d s hm Q q => by
  obtain ⟨ds, h1, h2⟩ := bind1 hm
  exact h.sd H0 O0 O σ H env ds s h1 _ fun vs H1 e1 hv => hf H1 O vs ds d (s.ex e1).there hv h2 Q fun v H2 e2 hv => q v H2 (e1.trans e2) hv
theorem d_cb {id : String} {x : Str} {p : Pos} {es : List Expr} {r : List V → Hp → VK → Prop} {f : List PyData → Option PyData} {t : TA} {ms : En → Option (List PyData)} (hc : ∀ i, CallR (X i) (.builtin id) r) (hf : CrD K r f) (hm : ∀ i, (X i).mg x = none) (hv : bootBuiltins x = some (.builtin id)) (h : MB X K M (e :: es) t ms)
    (hg : ∀ i, Gl (X i) x := by exact fun _ => rfl) (hn : x ≠ "__name__" := by decide) (hdb : (x == ("__debug__" : Str)) = false := by decide) (he : ∀ i, starEach (e :: es) (X i).env = (false, eval e (X i).env) :: starEach es (X i).env := by exact fun _ => rfl) (hpl : ∀ i, (backTo pos (starEach es (X i).env)).any (·.1) = false := by exact fun _ => rfl) :
    MD X K M (.Call (.Name x p) (e :: es) [] pos) (tCB r t) (mCB f ms) := ⟨fun i => pe_callB (hc i) (hg i) (hm i) hv (h.pa i) hn hdb (he i) (hpl i), snd_cb hf h⟩
theorem d_ty {T : String} {x : Str} {p : Pos} {es : List Expr} {r : List V → Hp → VK → Prop} {f : List PyData → Option PyData} {t : TA} {ms : En → Option (List PyData)} (hc : ∀ i, CallR (X i) (.type T) r) (hf : CrD K r f) (hm : ∀ i, (X i).mg x = none) (hv : bootBuiltins x = some (.type T)) (h : MB X K M (e :: es) t ms)
    (hg : ∀ i, Gl (X i) x := by exact fun _ => rfl) (hn : x ≠ "__name__" := by decide) (hdb : (x == ("__debug__" : Str)) = false := by decide) (he : ∀ i, starEach (e :: es) (X i).env = (false, eval e (X i).env) :: starEach es (X i).env := by exact fun _ => rfl) (hpl : ∀ i, (backTo pos (starEach es (X i).env)).any (·.1) = false := by exact fun _ => rfl) :
    MD X K M (.Call (.Name x p) (e :: es) [] pos) (tCB r t) (mCB f ms) := ⟨fun i => pe_callTy (hc i) (hg i) (hm i) hv (h.pa i) hn hdb (he i) (hpl i), snd_cb hf h⟩

/-! ### calls of defs -/
/-- a def's promise: it answers by f, the owned of its caller are nothing to it -/
def spD (K : PySem.W.Frag) (n : Nat) (f : List PyData → Option PyData) : Sp := fun vs H Q _ => ∃ ds d O, vs.length = n ∧ (∀ l ∈ O, ∃ o, H l = some o) ∧ DpAll K (cut H O) vs ds ∧ f ds = some d ∧ ∀ v H2, Ex H H2 → Dp K (cut H2 O) v d → Q v H2
theorem mA_len {es : List Expr} : ∀ {t : TA} {ms : En → Option (List PyData)}, MA X K M es t ms → True := fun _ => trivial
theorem d_call {j : Nat} {f : Addr} {fd : FuncData} {ps : List Str} {x : Str} {p : Pos} {es : List Expr} {fn : List PyData → Option PyData} {t : TA} {ms : En → Option (List PyData)} (G : ∀ i, FnOk (X i).prog (X i).w (X i).K (X i).mg (X i).base CX0 j f fd ps (spD K ps.length fn)) (hr : ∀ i, Room j (X i).A)
    (hm : ∀ i, (X i).mg x = some (.ref f)) (hk : ∀ i, PySem.W.keepIn (X i).K (.ref f) = true) (hb : ∀ i, Binds (X i).K fd ps []) (h : MA X K M (e :: es) t ms) (hl : ∀ env ds, ms env = some ds → ds.length = ps.length)
    (hg : ∀ i, Gl (X i) x := by exact fun _ => rfl) (hdb : (x == ("__debug__" : Str)) = false := by decide) (he : ∀ i, starEach (e :: es) (X i).env = (false, eval e (X i).env) :: starEach es (X i).env := by exact fun _ => rfl) (hpl : ∀ i, (backTo pos (starEach es (X i).env)).any (·.1) = false := by exact fun _ => rfl) :
    MD X K M (.Call (.Name x p) (e :: es) [] pos) (tCall (spD K ps.length fn) [] E0 t) (mCB fn ms) :=
  ⟨fun i => pe_call (G i) (hr i) (hg i) (hm i) (hk i) (hb i) .nil pass0 (h.pa i) hdb (he i) (hpl i), fun H0 O0 O σ H env d s hmm Q q => by
    obtain ⟨ds, h1, h2⟩ := bind1 hmm
    refine h.sd H0 O0 O σ H env ds s h1 _ fun vs H1 e1 hv => ?_
    refine ⟨ds, d, O, by rw [List.append_nil, dpAll_len hv]; exact hl env ds h1, (s.ex e1).there, by rw [List.append_nil]; exact hv, h2, fun v H2 e2 h3 => q v H2 (e1.trans e2) h3⟩⟩

/-! ### truth -/
def truD : PyData → Option Bool
  | .none => some false
  | .bool b => some b
  | .int i => some (i != 0)
  | .str x => if x.length ≤ sizeLine then some ((x.length : Int) != 0) else none
  | .list xs => some (!xs.isEmpty)
  | .tuple xs => some (!xs.isEmpty)
  | .dict _ => none
theorem empty_dp {H : Hp} {xs : List V} {ds : List PyData} (h : DpAll K H xs ds) : xs.isEmpty = ds.isEmpty := by
  cases h <;> rfl
theorem tru_dp {H : Hp} {v : V} {d : PyData} {b : Bool} (h : Dp K H v d) (hb : truD d = some b) : TruV K v H b := by
  cases h with
  | non => cases hb; rfl
  | bl x => cases hb; rfl
  | int i => cases hb; rfl
  | str x =>
    obtain ⟨hz, e⟩ := ite_some hb
    subst e
    exact ⟨hz, rfl⟩
  | lst hs ha =>
    cases hb
    exact .inl ⟨_, hs, by rw [empty_dp ha]⟩
  | tup hs ha =>
    cases hb
    exact .inr (.inl ⟨_, hs, by rw [empty_dp ha]⟩)
def mNot (m : En → Option PyData) : En → Option PyData := fun env => (m env).bind fun d => (truD d).bind fun b => some (.bool (!b))
theorem d_not (F : Fam X K N k) (h : MQ X K M e te me) : MD X K M (.UnaryOp .Not e pos) (tNotT K te) (mNot me) := ⟨fun i => by
  have := pe_notT (pos := pos) (h.pe i)
  rw [F.hK i] at this
  exact this, fun H0 O0 O σ H env d s hm Q q => by
  obtain ⟨d1, h1, h2⟩ := bind1 hm
  obtain ⟨b, h3, h4⟩ := bind1 h2
  cases h4
  exact h.sd H0 O0 O σ H env d1 s h1 _ fun v H1 e1 hv => ⟨b, tru_dp hv.dp h3, q _ H1 e1 (.bl _)⟩⟩
def mAnd (ma mb : En → Option PyData) : En → Option PyData := fun env => (ma env).bind fun d => (truD d).bind fun b => if b = true then mb env else some d
def mOr (ma mb : En → Option PyData) : En → Option PyData := fun env => (ma env).bind fun d => (truD d).bind fun b => if b = true then some d else mb env
theorem d_one {op : BoolOp} (h : MD X K M e te me) : MD X K M (.BoolOp op [e] pos) te me := ⟨fun i => pe_one (h.pe i), h.sd⟩
theorem d_and (F : Fam X K N k) {rest : List Expr} (ha : MD X K M a ta ma) (hb : MD X K M (.BoolOp .And (b :: rest) pos) tb mb) : MD X K M (.BoolOp .And (a :: b :: rest) pos) (tAndT K ta tb) (mAnd ma mb) := ⟨fun i => by
  have := pe_andT (ha.pe i) (hb.pe i)
  rw [F.hK i] at this
  exact this, fun H0 O0 O σ H env d s hm Q q => by
  obtain ⟨d1, h1, h2⟩ := bind1 hm
  obtain ⟨c, h3, h4⟩ := bind1 h2
  refine ha.sd H0 O0 O σ H env d1 s h1 _ fun v H1 e1 hv => ⟨c, tru_dp (dp_ex cut_ex hv) h3, ?_⟩
  cases c with
  | true =>
    rw [if_pos rfl] at h4 ⊢
    exact hb.sd H0 O0 O σ H1 env d (s.ex e1) h4 Q fun w H2 e2 hw => q w H2 (e1.trans e2) hw
  | false =>
    rw [if_neg Bool.false_ne_true] at h4 ⊢
    cases h4
    exact q v H1 e1 hv⟩
theorem d_or (F : Fam X K N k) {rest : List Expr} (ha : MD X K M a ta ma) (hb : MD X K M (.BoolOp .Or (b :: rest) pos) tb mb) : MD X K M (.BoolOp .Or (a :: b :: rest) pos) (tOrT K ta tb) (mOr ma mb) := ⟨fun i => by
  have := pe_orT (ha.pe i) (hb.pe i)
  rw [F.hK i] at this
  exact this, fun H0 O0 O σ H env d s hm Q q => by
  obtain ⟨d1, h1, h2⟩ := bind1 hm
  obtain ⟨c, h3, h4⟩ := bind1 h2
  refine ha.sd H0 O0 O σ H env d1 s h1 _ fun v H1 e1 hv => ⟨c, tru_dp (dp_ex cut_ex hv) h3, ?_⟩
  cases c with
  | true =>
    rw [if_pos rfl] at h4 ⊢
    cases h4
    exact q v H1 e1 hv
  | false =>
    rw [if_neg Bool.false_ne_true] at h4 ⊢
    exact hb.sd H0 O0 O σ H1 env d (s.ex e1) h4 Q fun w H2 e2 hw => q w H2 (e1.trans e2) hw⟩

/-! ### tests -/
def mTru (m : En → Option PyData) : En → Option Bool := fun env => (m env).bind truD
/-- a test by truth: anything that isn't and, or, not, a comparison -/
theorem t_tru (F : Fam X K N k) (h : MQ X K M e te me) (he : ∀ i whole, isTrue e (X i).env whole = (do let v ← whole; standAt e.pos; holding [v] (truthy v)) := by exact fun _ _ => rfl) : MT X K M e (fun σ H Q => te σ H fun x H' => ∃ k, TruV K x H' k ∧ Q k H') (mTru me) := ⟨fun i => by
  have := pt_truth (h.pe i) (he i)
  rw [F.hK i] at this
  exact this, fun H0 O0 O σ H env b s hm Q q => by
  obtain ⟨d, h1, h2⟩ := bind1 hm
  exact h.sd H0 O0 O σ H env d s h1 _ fun v H1 e1 hv => ⟨b, tru_dp hv.dp h2, q H1 e1⟩⟩
def mAndT (ma mb : En → Option Bool) : En → Option Bool := fun env => (ma env).bind fun b => if b = true then mb env else some false
def mOrT (ma mb : En → Option Bool) : En → Option Bool := fun env => (ma env).bind fun b => if b = true then some true else mb env
def mNotT (ma : En → Option Bool) : En → Option Bool := fun env => (ma env).bind fun b => some (!b)
structure MW {ι : Type} (X : ι → Cx) (K : PySem.W.Frag) (M : List Nat) (e : Expr) (t : TT) (m : En → Option Bool) : Prop where
  pw : ∀ i, PW (X i) e t
  sd : SndT K M t m
theorem w_pt {t : TT} {m : En → Option Bool} (h : MW X K M e t m) : MT X K M e t m := ⟨fun i => PW.pt (h.pw i), h.sd⟩
theorem w_and1 {t : TT} {m : En → Option Bool} (h : MT X K M e t m) : MW X K M (.BoolOp .And [e] pos) t m := ⟨fun i => pw_and1 (h.pt i), h.sd⟩
theorem w_or1 {t : TT} {m : En → Option Bool} (h : MT X K M e t m) : MW X K M (.BoolOp .Or [e] pos) t m := ⟨fun i => pw_or1 (h.pt i), h.sd⟩
theorem w_and {t u : TT} {m n : En → Option Bool} {rest : List Expr} (ha : MT X K M a t m) (hb : MW X K M (.BoolOp .And (b :: rest) pos) u n) : MW X K M (.BoolOp .And (a :: b :: rest) pos) (tAnd t u) (mAndT m n) := ⟨fun i => pw_and (ha.pt i) (hb.pw i), fun H0 O0 O σ H env c s hm Q q => by
  obtain ⟨d, h1, h2⟩ := bind1 hm
  refine ha.sd H0 O0 O σ H env d s h1 _ fun H1 e1 => ?_
  cases d with
  | true =>
    rw [if_pos rfl] at h2 ⊢
    exact hb.sd H0 O0 O σ H1 env c (s.ex e1) h2 Q fun H2 e2 => q H2 (e1.trans e2)
  | false =>
    rw [if_neg Bool.false_ne_true] at h2 ⊢
    cases h2
    exact q H1 e1⟩
theorem w_or {t u : TT} {m n : En → Option Bool} {rest : List Expr} (ha : MT X K M a t m) (hb : MW X K M (.BoolOp .Or (b :: rest) pos) u n) : MW X K M (.BoolOp .Or (a :: b :: rest) pos) (tOr t u) (mOrT m n) := ⟨fun i => pw_or (ha.pt i) (hb.pw i), fun H0 O0 O σ H env c s hm Q q => by
  obtain ⟨d, h1, h2⟩ := bind1 hm
  refine ha.sd H0 O0 O σ H env d s h1 _ fun H1 e1 => ?_
  cases d with
  | true =>
    rw [if_pos rfl] at h2 ⊢
    cases h2
    exact q H1 e1
  | false =>
    rw [if_neg Bool.false_ne_true] at h2 ⊢
    exact hb.sd H0 O0 O σ H1 env c (s.ex e1) h2 Q fun H2 e2 => q H2 (e1.trans e2)⟩
theorem t_not {t : TT} {m : En → Option Bool} (h : MT X K M e t m) : MT X K M (.UnaryOp .Not e pos) (tNot t) (mNotT m) := ⟨fun i => pt_not (h.pt i), fun H0 O0 O σ H env c s hm Q q => by
  obtain ⟨d, h1, h2⟩ := bind1 hm
  cases h2
  exact h.sd H0 O0 O σ H env d s h1 _ fun H1 e1 => q H1 e1⟩
def mIf (mt : En → Option Bool) (ma mb : En → Option PyData) : En → Option PyData := fun env => (mt env).bind fun b => if b = true then ma env else mb env
theorem d_if {t : TT} {m : En → Option Bool} (hc : MT X K M c t m) (ha : MD X K M a ta ma) (hb : MD X K M b tb mb) : MD X K M (.IfExp c a b pos) (tIf t ta tb) (mIf m ma mb) := ⟨fun i => pe_ifExp (hc.pt i) (ha.pe i) (hb.pe i), fun H0 O0 O σ H env d s hm Q q => by
  obtain ⟨x, h1, h2⟩ := bind1 hm
  refine hc.sd H0 O0 O σ H env x s h1 _ fun H1 e1 => ?_
  cases x with
  | true =>
    rw [if_pos rfl] at h2 ⊢
    exact ha.sd H0 O0 O σ H1 env d (s.ex e1) h2 Q fun v H2 e2 hv => q v H2 (e1.trans e2) hv
  | false =>
    rw [if_neg Bool.false_ne_true] at h2 ⊢
    exact hb.sd H0 O0 O σ H1 env d (s.ex e1) h2 Q fun v H2 e2 hv => q v H2 (e1.trans e2) hv⟩
/-- a < b < c -/
def mChain (f g : PyData → PyData → Option PyData) (ma mb mc : En → Option PyData) : En → Option PyData := fun env => (ma env).bind fun a => (mb env).bind fun b => (f a b).bind fun z => match z with
  | .bool true => (mc env).bind fun c => g b c
  | .bool false => some (.bool false)
  | _ => none
theorem d_chain {r r' : R2} {op op' : CmpOp} {f g : PyData → PyData → Option PyData} (ho : ∀ i, OpR (X i) (compareOp op) r) (hf : OpD K r f) (ho' : ∀ i, OpR (X i) (compareOp op') r') (hg : OpD K r' g) (ha : MQ X K M a ta ma) (hb : MQ X K M b tb mb) (hc : MQ X K M c tc mc) (hm : lastMarks [op, op'] [b, c] = false := by with_unfolding_all rfl) :
    MD X K M (.Compare a [op, op'] [b, c] pos) (tChain r r' ta tb tc) (mChain f g ma mb mc) := ⟨fun i => pe_chain (ho i) (ho' i) (ha.pe i) (hb.pe i) (hc.pe i) hm, fun H0 O0 O σ H env d s hmm Q q => by
  obtain ⟨x, y, h1, h2, h3⟩ := bind2 hmm
  obtain ⟨z, h4, h5⟩ := bind1 h3
  refine ha.sd H0 O0 O σ H env x s h1 _ fun v H1 e1 hv => ?_
  refine hb.sd H0 O0 O σ H1 env y (s.ex e1) h2 _ fun w H2 e2 hw => ?_
  have s2 := (s.ex e1).ex e2
  refine hf H2 O v w x y z s2.there (hv.ex e2) hw h4 _ fun u H3 e3 hu => ?_
  cases z with
  | bool bz =>
    cases hu
    refine ⟨bz, rfl, ?_⟩
    cases bz with
    | true =>
      rw [if_pos rfl]
      obtain ⟨dc, h6, h7⟩ := bind1 (show ((mc env).bind fun c => g y c) = some d from h5)
      refine hc.sd H0 O0 O σ H3 env dc (s2.ex e3) h6 _ fun t H4 e4 ht => ?_
      exact hg H4 O w t y dc d ((s2.ex e3).ex e4).there ((hw.ex e3).ex e4) ht h7 Q fun v' H5 e5 h => q v' H5 ((((e1.trans e2).trans e3).trans e4).trans e5) h
    | false =>
      rw [if_neg (show ¬ false = true from Bool.false_ne_true)]
      cases h5
      exact q _ H3 ((e1.trans e2).trans e3) (.bl _)
  | _ => cases h5⟩
/-- -e -/
def dNeg : PyData → Option PyData
  | .int i => some (.int (-i))
  | _ => none
def mUn (f : PyData → Option PyData) (m : En → Option PyData) : En → Option PyData := fun env => (m env).bind f
theorem d_neg (h : MD X K M e te me) : MD X K M (.UnaryOp .USub e pos) (tUn (rU fun i => .int (-i)) te) (mUn dNeg me) := ⟨fun i => pe_un un_neg (h.pe i), fun H0 O0 O σ H env d s hm Q q => by
  obtain ⟨d1, h1, h2⟩ := bind1 hm
  refine h.sd H0 O0 O σ H env d1 s h1 _ fun v H1 e1 hv => ?_
  cases hv with
  | int i =>
    cases h2
    exact ⟨i, rfl, q _ H1 e1 (.int _)⟩
  | _ => cases h2⟩
end

end Rv
namespace Rv
open PySem L2 PySem.Spec PyProof.Rows
/-! The data layer, part 6: what is walked, comprehensions, statements. -/

/-- J walks things that read as ds while the heap outside the owned stays (b: and the owned do) -/
def Wk (K : PySem.W.Frag) (O : List Addr) (J : It) (H : Hp) (ds : List PyData) (b : Bool) : Prop := ∀ (H' : Hp) (O' : List Addr), Ex (cut H O) (cut H' O') → (∀ l ∈ O', ∃ o, H' l = some o) → (b = true → ∀ l ∈ O, ∀ o, H l = some o → H' l = some o) →
  ∀ i, (∀ d, ds[i]? = some d → J.go i H' ∧ ∀ x H'', J.yld i H' x H'' → Ex H' H'' ∧ Dp K (cut H'' O') x d) ∧ (ds.length = i → J.stop i H')
structure MI {ι : Type} (X : ι → Cx) (K : PySem.W.Frag) (M : List Nat) (tg e : Expr) (wi : TI) (m : En → Option (List PyData)) (b : Bool) : Prop where
  pi : ∀ i, PI (X i) tg e wi
  sd : ∀ H0 O0 O σ H env ds, Sl K M H0 O0 O σ H env → m env = some ds → ∀ R : It → Hp → Prop, (∀ J H2, Ex H H2 → Wk K O J H2 ds b → R J H2) → wi σ H R
theorem Wk.weak {K : PySem.W.Frag} {O : List Addr} {J : It} {H : Hp} {ds : List PyData} (h : Wk K O J H ds false) : Wk K O J H ds true := fun H' O' a c _ => h H' O' a c (fun z => nomatch z)

/-! ### lists, tuples, texts -/
def iSeq (K : PySem.W.Frag) (tl : TE) : TI := fun σ H R => iList K tl σ H R ∨ iTup K tl σ H R ∨ iStr tl σ H R
theorem pi_seq {X : Cx} {K : PySem.W.Frag} (hK : X.K = K) {tg l : Expr} {tl : TE} (hl : PE X l tl) : PI X tg l (iSeq K tl) := by
  subst hK
  refine ⟨fun pins s σ H R I => ?_⟩
  rintro (h | h | h)
  · exact (pi_list hl).run pins s σ H R I h
  · exact (pi_tup hl).run pins s σ H R I h
  · exact (pi_str hl).run pins s σ H R I h
def itemsD : PyData → Option (List PyData)
  | .list xs => some xs
  | .tuple xs => some xs
  | .str word => some (word.cps.toList.map fun c => .str ⟨#[c]⟩)
  | _ => none
section
variable {ι : Type} {X : ι → Cx} {K : PySem.W.Frag} {N : List Str} {k : Nat} {M : List Nat} {a b c e tg : Expr} {ta tb tc te : TE} {ma mb mc me : En → Option PyData} {pos : Pos}
theorem wk_list {H : Hp} {O : List Addr} {p : Addr} {xs : List V} {ds : List PyData} {b : Bool} (hs : ∀ H' O', Ex (cut H O) (cut H' O') → (b = true → ∀ l ∈ O, ∀ o, H l = some o → H' l = some o) → SqL K H' p xs) (ha : DpAll K (cut H O) xs ds) : Wk K O (Itl K p) H ds b := fun H' O' e1 _ e3 i => by
  have hq := hs H' O' e1 e3
  refine ⟨fun d hd => ?_, fun hl => ⟨xs, hq, by rw [dpAll_len ha]; exact Nat.le_of_eq hl⟩⟩
  obtain ⟨v, hv, hd'⟩ := dpAll_get' ha hd
  refine ⟨⟨xs, v, hq, hv⟩, fun x H'' hy => ?_⟩
  obtain ⟨e, hy⟩ := hy
  subst e
  have : x = v := Option.some.inj ((hy xs hq).symm.trans hv)
  subst this
  exact ⟨Ex.refl _, dp_ex e1 hd'⟩
theorem wk_tup {H : Hp} {O : List Addr} {p : Addr} {xs : List V} {ds : List PyData} {b : Bool} (hs : SqT K (cut H O) p xs) (ha : DpAll K (cut H O) xs ds) : Wk K O (Itt K p) H ds b := fun H' O' e1 _ _ i => by
  have hq : SqT K H' p xs := cut_ex.st (e1.st hs)
  refine ⟨fun d hd => ?_, fun hl => ⟨xs, hq, by rw [dpAll_len ha]; exact Nat.le_of_eq hl⟩⟩
  obtain ⟨v, hv, hd'⟩ := dpAll_get' ha hd
  refine ⟨⟨xs, v, hq, hv⟩, fun x H'' hy => ?_⟩
  obtain ⟨e, hy⟩ := hy
  subst e
  have : x = v := Option.some.inj ((hy xs hq).symm.trans hv)
  subst this
  exact ⟨Ex.refl _, dp_ex e1 hd'⟩
theorem wk_str {H : Hp} {O : List Addr} {z : Str} {b : Bool} : Wk K O (Its z) H (z.cps.toList.map fun c => PyData.str ⟨#[c]⟩) b := fun H' O' _ _ _ i => by
  refine ⟨fun d hd => ?_, fun hl => by
    rw [List.length_map, Array.length_toList] at hl
    exact Nat.le_of_eq hl⟩
  rw [List.getElem?_map] at hd
  cases hc : z.cps.toList[i]? with
  | none =>
    rw [hc] at hd
    cases hd
  | some c =>
    rw [hc] at hd
    cases hd
    have hi : i < z.cps.size := by
      have := (List.getElem?_eq_some_iff.mp hc).1
      simpa only [Array.length_toList] using this
    refine ⟨hi, fun x H'' hy => ?_⟩
    obtain ⟨e, c', hc', ex⟩ := hy
    subst e
    have : z.cps.toList[i]? = some c' := by
      rw [Array.getElem?_toList]
      exact hc'
    rw [hc] at this
    cases this
    subst ex
    exact ⟨Ex.refl _, .str _⟩
def mIt (m : En → Option PyData) : En → Option (List PyData) := fun env => (m env).bind itemsD
/-- over anything outside the owned -/
theorem i_seq (F : Fam X K N k) (h : MD X K M e te me) : MI X K M tg e (iSeq K te) (mIt me) false := ⟨fun i => pi_seq (F.hK i) (h.pe i), fun H0 O0 O σ H env ds s hm R q => by
  obtain ⟨d, h1, h2⟩ := bind1 hm
  cases d with
  | list xs =>
    cases h2
    refine .inl (h.sd H0 O0 O σ H env _ s h1 _ fun v H1 e1 hv => ?_)
    cases hv with
    | lst hs ha => exact ⟨_, rfl, ⟨_, cut_ex.sl hs⟩, q _ H1 e1 (wk_list (fun H' O' a _ => cut_ex.sl (a.sl hs)) ha)⟩
  | tuple xs =>
    cases h2
    refine .inr (.inl (h.sd H0 O0 O σ H env _ s h1 _ fun v H1 e1 hv => ?_))
    cases hv with
    | tup hs ha => exact ⟨_, rfl, ⟨_, cut_ex.st hs⟩, q _ H1 e1 (wk_tup hs ha)⟩
  | str z =>
    cases h2
    refine .inr (.inr (h.sd H0 O0 O σ H env _ s h1 _ fun v H1 e1 hv => ?_))
    cases hv; exact ⟨_, rfl, q _ H1 e1 wk_str⟩
  | _ => cases h2⟩
/-- over an own list: in a comprehension -/
theorem i_own (F : Fam X K N k) (h : MQ X K M e te me) : MI X K M tg e (iSeq K te) (mIt me) true := ⟨fun i => pi_seq (F.hK i) (h.pe i), fun H0 O0 O σ H env ds s hm R q => by
  obtain ⟨d, h1, h2⟩ := bind1 hm
  cases d with
  | list xs =>
    cases h2
    refine .inl (h.sd H0 O0 O σ H env _ s h1 _ fun v H1 e1 hv => ?_)
    rcases hv with hv | ⟨l, xs, es, rfl, hl, he, ha⟩
    · cases hv with
      | lst hs ha => exact ⟨_, rfl, ⟨_, cut_ex.sl hs⟩, q _ H1 e1 (wk_list (fun H' O' a _ => cut_ex.sl (a.sl hs)) ha)⟩
    · cases he
      refine ⟨l, rfl, ⟨xs, .inl (.inl hl)⟩, q _ H1 e1 (wk_list (fun H' O' a b => ?_) ha)⟩
      by_cases z : l ∈ O
      · exact .inl (.inl (b rfl l z _ hl))
      · exact .inl (.inl (cut_ex _ _ (a l _ (by rw [cut_out z]; exact hl))))
  | tuple xs =>
    cases h2
    refine .inr (.inl (h.sd H0 O0 O σ H env _ s h1 _ fun v H1 e1 hv => ?_))
    obtain ⟨a, ys, rfl, s1, a1, c1⟩ := hv.tuple
    exact ⟨_, rfl, ⟨_, s1⟩, q _ H1 e1 (wk_tup c1 a1)⟩
  | str z =>
    cases h2
    refine .inr (.inr (h.sd H0 O0 O σ H env _ s h1 _ fun v H1 e1 hv => ?_))
    exact ⟨z, hv.str, q _ H1 e1 wk_str⟩
  | _ => cases h2⟩
theorem i_weak {wi : TI} {m : En → Option (List PyData)} (h : MI X K M tg e wi m false) : MI X K M tg e wi m true := ⟨h.pi, fun H0 O0 O σ H env ds s hm R q => h.sd H0 O0 O σ H env ds s hm R fun J H2 e w => q J H2 e w.weak⟩

/-! ### ranges -/
def rangeD (lo : Int) (n : Nat) : List PyData := (List.range n).map fun (i : Nat) => .int (lo + (i : Int))
theorem wk_range {H : Hp} {O : List Addr} {lo : Int} {n : Nat} {b : Bool} : Wk K O (Itr lo n) H (rangeD lo n) b := fun H' O' _ _ _ i => by
  have hl : (rangeD lo n).length = n := by unfold rangeD; rw [List.length_map, List.length_range]
  refine ⟨fun d hd => ?_, fun h => by rw [hl] at h; exact Nat.le_of_eq h⟩
  have hi : i < n := by
    have := (List.getElem?_eq_some_iff.mp hd).1
    rw [hl] at this
    exact this
  unfold rangeD at hd
  rw [List.getElem?_map, List.getElem?_range hi] at hd
  cases hd
  refine ⟨hi, fun x H'' hy => ?_⟩
  obtain ⟨e, hy⟩ := hy
  subst e
  subst hy
  exact ⟨Ex.refl _, .int _⟩
def rng1 : List PyData → Option (List PyData)
  | [.int j] => if -(2 ^ 62) ≤ j ∧ j < 2 ^ 62 then some (rangeD 0 j.toNat) else none
  | _ => none
def rng2 : List PyData → Option (List PyData)
  | [.int i, .int j] => if -(2 ^ 62) ≤ i ∧ i < 2 ^ 62 ∧ -(2 ^ 62) ≤ j ∧ j < 2 ^ 62 then some (rangeD i (j - i).toNat) else none
  | _ => none
def mRng (f : List PyData → Option (List PyData)) (ms : En → Option (List PyData)) : En → Option (List PyData) := fun env => (ms env).bind f
theorem i_range1 {t : TA} {ms : En → Option (List PyData)} {p : Pos} (hm : ∀ i, (X i).mg "range" = none) (h : MA X K M [a] t ms) (hg : ∀ i, Gl (X i) "range" := by exact fun _ => rfl) (hs : ∀ i, starEach [a] (X i).env = [(false, eval a (X i).env)] := by exact fun _ => rfl) :
    MI X K M tg (.Call (.Name "range" p) [a] [] pos) (iRng1 t) (mRng rng1 ms) false := ⟨fun i => pi_range1 (hg i) (hm i) (h.pa i) (hs i), fun H0 O0 O σ H env ds s hmm R q => by
  obtain ⟨es, h1, h2⟩ := bind1 hmm
  refine h.sd H0 O0 O σ H env es s h1 _ fun vs H1 e1 hv => ?_
  cases hv with
  | nil => cases h2
  | cons hx ht =>
    cases ht with
    | cons _ _ =>
      exfalso
      revert h2
      unfold rng1
      split <;> simp_all
    | nil =>
      cases hx with
      | int j =>
        obtain ⟨hz, e⟩ := ite_some h2
        subst e
        exact ⟨j, rfl, hz.1, hz.2, q _ H1 e1 wk_range⟩
      | _ => cases h2⟩
theorem i_range2 {t : TA} {ms : En → Option (List PyData)} {p : Pos} (hm : ∀ i, (X i).mg "range" = none) (h : MA X K M [a, b] t ms) (hg : ∀ i, Gl (X i) "range" := by exact fun _ => rfl) (hs : ∀ i, starEach [a, b] (X i).env = [(false, eval a (X i).env), (false, eval b (X i).env)] := by exact fun _ => rfl) (hs2 : ∀ i, starEach [b] (X i).env = [(false, eval b (X i).env)] := by exact fun _ => rfl) :
    MI X K M tg (.Call (.Name "range" p) [a, b] [] pos) (iRng2 t) (mRng rng2 ms) false := ⟨fun i => pi_range2 (hg i) (hm i) (h.pa i) (hs i) (hs2 i), fun H0 O0 O σ H env ds s hmm R q => by
  obtain ⟨es, h1, h2⟩ := bind1 hmm
  refine h.sd H0 O0 O σ H env es s h1 _ fun vs H1 e1 hv => ?_
  have two : ∃ i j, es = [.int i, .int j] ∧ (-(2 ^ 62) ≤ i ∧ i < 2 ^ 62 ∧ -(2 ^ 62) ≤ j ∧ j < 2 ^ 62) ∧ rangeD i (j - i).toNat = ds := by
    unfold rng2 at h2
    split at h2
    · rename_i i j
      obtain ⟨hz, e⟩ := ite_some h2
      exact ⟨i, j, rfl, hz, e⟩
    · cases h2
  obtain ⟨i, j, rfl, hz, rfl⟩ := two
  cases hv with
  | cons hx ht =>
    cases ht with
    | cons hy ht =>
      cases ht
      cases hx
      cases hy
      exact ⟨i, j, rfl, hz, q _ H1 e1 wk_range⟩⟩

/-! ### targets -/
structure MG {ι : Type} (X : ι → Cx) (K : PySem.W.Frag) (M : List Nat) (tg : Expr) (g : TG) (b : PyData → En → Option En) : Prop where
  pg : ∀ i, PG (X i) tg g
  sd : SndG K M g b
def gB (i : Nat) : PyData → En → Option En := fun d env => some (env.set i (some d))
theorem g_name (F : Fam X K N k) (i : Nat) {x : Str} (hi : i ∉ M := by decide) (hx : N[i]? = some x := by rfl) (hl : ∀ j, Loc (X j).env.scope x := by first | exact fun _ => Or.inl rfl | exact fun _ => Or.inr rfl) (hf : ∀ j, (X j).fn x = true ∨ (X j).env.scope.names.lookup x = some .local := by first | exact fun _ => .inl rfl | exact fun _ => .inr rfl) :
    MG X K M (.Name x pos) (gName i) (gB i) := ⟨fun j => pg_name (by rw [F.hN j]; exact F.nd) (by rw [F.hN j]; exact hx) (hl j) (hf j), fun H0 O0 O σ H env d env' v s hv hb Q q => by
  cases hb
  exact q _ (s.set hi hv)⟩
structure MGs {ι : Type} (X : ι → Cx) (K : PySem.W.Frag) (M : List Nat) (tgs : List Expr) (g : TGs) (b : List PyData → En → Option En) : Prop where
  pg : ∀ i, PGs (X i) tgs g
  sd : ∀ H0 O0 O σ H env ds env' vs, Sl K M H0 O0 O σ H env → DpAll K (cut H O) vs ds → b ds env = some env' → ∀ Q : L2.St → Hp → Prop, (∀ σ', Sl K M H0 O0 O σ' H env' → Q σ' H) → g vs σ H Q
def gsN : List PyData → En → Option En
  | [], env => some env
  | _, _ => none
def gsC (b : PyData → En → Option En) (bs : List PyData → En → Option En) : List PyData → En → Option En
  | d :: ds, env => (b d env).bind fun e => bs ds e
  | _, _ => none
theorem gs_nil : MGs X K M [] gNil gsN := ⟨fun _ => pgs_nil, fun H0 O0 O σ H env ds env' vs s hv hb Q q => by
  cases hv with
  | nil =>
    cases hb
    exact ⟨rfl, q σ s⟩
  | cons _ _ => cases hb⟩
theorem gs_cons {es : List Expr} {g : TG} {gs : TGs} {b : PyData → En → Option En} {bs : List PyData → En → Option En} (h : MG X K M e g b) (hr : MGs X K M es gs bs) (hs : ∀ i, (assignEach (e :: es) (X i).env).map (·.2) = assign e (X i).env :: (assignEach es (X i).env).map (·.2) := by exact fun _ => rfl) :
    MGs X K M (e :: es) (gCons g gs) (gsC b bs) := ⟨fun i => pgs_cons (h.pg i) (hr.pg i) (hs i), fun H0 O0 O σ H env ds env' vs s hv hb Q q => by
  cases hv with
  | nil => cases hb
  | cons h1 h2 =>
    obtain ⟨e1, h3, h4⟩ := bind1 (show ((b _ env).bind fun e => bs _ e) = some env' from hb)
    exact ⟨_, _, rfl, h.sd H0 O0 O σ H env _ e1 _ s h1 h3 _ fun σ' s' => hr.sd H0 O0 O σ' H e1 _ env' _ s' h2 h4 Q q⟩⟩
def gT (n : Nat) (bs : List PyData → En → Option En) : PyData → En → Option En
  | .tuple ds, env => if ds.length = n then bs ds env else none
  | _, _ => none
theorem g_tup (F : Fam X K N k) {es : List Expr} {n q : Nat} {gs : TGs} {bs : List PyData → En → Option En} (h : MGs X K M es gs bs) (hn : ∀ i, (assignEach es (X i).env).length = n := by exact fun _ => rfl) (hst : ∀ i, (assignEach es (X i).env).findIdx? (·.1) = none := by exact fun _ => rfl) :
    MG X K M (.Tuple es q pos) (gTup K n gs) (gT n bs) := ⟨fun i => by
  have := pg_tup (k := q) (pos := pos) (F.calm i) (h.pg i) (hn i) (hst i)
  rw [F.hK i] at this
  exact this, fun H0 O0 O σ H env d env' v s hv hb Q q => by
  cases hv with
  | tup hs ha =>
    rename_i ds
    have hb2 : (if ds.length = n then bs ds env else none) = some env' := hb
    by_cases z : ds.length = n
    · rw [if_pos z] at hb2
      exact ⟨_, _, rfl, cut_ex.st hs, by rw [dpAll_len ha]; exact z, h.sd H0 O0 O σ H env _ env' _ s ha hb2 Q q⟩
    · rw [if_neg z] at hb2
      cases hb2
  | _ => cases hb⟩
end

end Rv
namespace Rv
open PySem L2 PySem.Spec PyProof.Rows
/-! The data layer, part 7: comprehensions and statements. -/

section
variable {ι : Type} {X : ι → Cx} {K : PySem.W.Frag} {N : List Str} {k : Nat} {M : List Nat} {a b c e tg : Expr} {ta tb tc te : TE} {ma mb mc me : En → Option PyData} {pos : Pos}

/-! ### comprehensions -/
def wipeD (env : En) : List Nat → En
  | [] => env
  | v :: vs => (wipeD env vs).set v none
theorem Sl.wiped {H0 H : Hp} {O0 O : List Addr} {σ : L2.St} {env : En} (s : Sl K M H0 O0 O σ H env) : ∀ vs : List Nat, Sl K M H0 O0 O (wipe σ vs) H (wipeD env vs)
  | [] => s
  | v :: vs => (Sl.wiped s vs).drop
/-- the list that a comprehension makes -/
def lcD (bind : PyData → En → Option En) (mt : En → Option Bool) (me : En → Option PyData) (env : En) : List PyData → Option (List PyData)
  | [] => some []
  | d :: ds => (bind d env).bind fun env1 => (mt env1).bind fun b => if b = true then (me env1).bind fun x => (lcD bind mt me env ds).bind fun r => some (x :: r) else lcD bind mt me env ds
def mLc (vs : List Nat) (mi : En → Option (List PyData)) (bind : PyData → En → Option En) (mt : En → Option Bool) (me : En → Option PyData) : En → Option PyData := fun env => (mi env).bind fun ds => (lcD bind mt me (wipeD env vs) ds).bind fun r => if r.length ≤ sizeLine then some (.list r) else none
/-- a target leaves all but the slots vs -/
def Keeps (g : TG) (vs : List Nat) : Prop := ∀ x σ H Q Q', (∀ σ' H', wipe σ' vs = wipe σ vs → Q σ' H' → Q' σ' H') → g x σ H Q → g x σ H Q'
theorem lcD_cons {bind : PyData → En → Option En} {mt : En → Option Bool} {me : En → Option PyData} {env : En} {d : PyData} {ds r : List PyData} (h : lcD bind mt me env (d :: ds) = some r) :
    ∃ env1 b, bind d env = some env1 ∧ mt env1 = some b ∧ ((b = true ∧ ∃ x r', me env1 = some x ∧ lcD bind mt me env ds = some r' ∧ r = x :: r') ∨ (b = false ∧ lcD bind mt me env ds = some r)) := by
  obtain ⟨env1, h1, h2⟩ := bind1 (show ((bind d env).bind _) = some r from h)
  obtain ⟨b, h3, h4⟩ := bind1 h2
  refine ⟨env1, b, h1, h3, ?_⟩
  cases b with
  | true =>
    rw [if_pos rfl] at h4
    obtain ⟨x, r', h5, h6, h7⟩ := bind2 h4
    cases h7
    exact .inl ⟨rfl, x, r', h5, h6, rfl⟩
  | false =>
    rw [if_neg Bool.false_ne_true] at h4
    exact .inr ⟨rfl, h4⟩
theorem cut_cons {H : Hp} {O : List Addr} {D : Addr} {o : HO} (h : H D = none) : cut (upd H D o) (D :: O) = cut H O := by
  funext a
  by_cases z : a ∈ O
  · rw [cut_in (List.mem_cons_of_mem _ z), cut_in z]
  · by_cases y : a = D
    · subst y
      rw [cut_in List.mem_cons_self, cut_out z, h]
    · rw [cut_out (by simp only [List.mem_cons, not_or]; exact ⟨y, z⟩), cut_out z, upd_ne y]
theorem snd_lc {vs : List Nat} {wi : TI} {mi : En → Option (List PyData)} {g : TG} {bind : PyData → En → Option En} {tt : TT} {mt : En → Option Bool}
    (hi : ∀ H0 O0 O σ H env ds, Sl K M H0 O0 O σ H env → mi env = some ds → ∀ R : It → Hp → Prop, (∀ J H2, Ex H H2 → Wk K O J H2 ds true → R J H2) → wi σ H R)
    (hg : SndG K M g bind) (hk : ∀ x σ H (Q : L2.St → Hp → Prop), g x (wipe σ vs) H Q → g x (wipe σ vs) H fun σ2 H2 => wipe σ2 vs = wipe σ vs ∧ Q σ2 H2) (ht : SndT K M tt mt) (he : Snd K M te me) : Snd K M (tLc wi g tt te vs) (mLc vs mi bind mt me) := fun H0 O0 O σ H env d s hm Q q => by
  obtain ⟨ds, h1, h2⟩ := bind1 hm
  obtain ⟨r, h3, h4⟩ := bind1 h2
  obtain ⟨hz, e⟩ := ite_some h4
  subst e
  refine hi H0 O0 O σ H env ds s h1 _ fun J H1 e1 wk D hD => ?_
  have s1 := s.ex e1
  have nD : D ∉ O := s1.new hD
  -- the slots over a heap with the new list, owned
  have up : ∀ H', Ex (cut H1 O) (cut H' (D :: O)) → (∀ l ∈ O, ∀ o, H1 l = some o → H' l = some o) → (∃ acc, H' D = some (.lst acc)) → Sl K M H0 O0 (D :: O) (wipe σ vs) H' (wipeD env vs) := fun H' x1 x2 x3 => by
    have xx : Ex H1 H' := fun a o q => by
      by_cases z : a ∈ O
      · exact x2 a z o q
      · exact cut_ex _ _ (x1 a o (by rw [cut_out z]; exact q))
    have s2 := (Sl.wiped (s1.ex xx) vs)
    refine ⟨s2.ext, fun l h => ?_, fun l h => List.mem_cons_of_mem _ (s2.sub l h), fun l h => ?_, fun i d' h n => ?_, fun i d' h n => ?_, s2.inj, s2.len⟩
    · rcases List.mem_cons.mp h with z | z
      · subst z
        exact .inr (s1.ext.free hD)
      · exact s2.fresh l z
    · rcases List.mem_cons.mp h with z | z
      · subst z
        obtain ⟨acc, q⟩ := x3
        exact ⟨_, q⟩
      · exact s2.there l z
    · obtain ⟨v, g1, g2⟩ := (Sl.wiped s1 vs).sh i d' h n
      exact ⟨v, g1, dp_ex x1 g2⟩
    · obtain ⟨l, o, g1, g2, g3, g5, g6⟩ := (Sl.wiped s1 vs).ow i d' h n
      exact ⟨l, o, g1, List.mem_cons_of_mem _ g2, g3, x2 l g2 _ g5, g6.ex x1⟩
  refine ⟨fun i m H' => i ≤ ds.length ∧ m = ds.length - i ∧ Ex (cut H1 O) (cut H' (D :: O)) ∧ (∀ l ∈ O, ∀ o, H1 l = some o → H' l = some o) ∧ ∃ acc rs rest, H' D = some (.lst acc) ∧ DpAll K (cut H' (D :: O)) acc rs ∧ lcD bind mt me (wipeD env vs) (ds.drop i) = some rest ∧ rs ++ rest = r,
    ⟨ds.length, Nat.zero_le _, rfl, ?_, ?_, [], [], r, upd_same, .nil, h3, rfl⟩, fun i m H' w => ?_⟩
  · rw [cut_cons hD]
    exact Ex.refl _
  · intro l hl o ho
    rw [upd_ne fun (z : l = D) => by rw [z, hD] at ho; cases ho]
    exact ho
  · obtain ⟨hil, rfl, x1, x2, acc, rs, rest, y1, y2, y3, y4⟩ := w
    have s3 := up H' x1 x2 ⟨acc, y1⟩
    have xx : Ex H1 H' := fun a o q => by
      by_cases z : a ∈ O
      · exact x2 a z o q
      · exact cut_ex _ _ (x1 a o (by rw [cut_out z]; exact q))
    have hw := wk H' (D :: O) x1 s3.there (fun _ l hl o ho => x2 l hl o ho) i
    by_cases hlt : i < ds.length
    · have hdi : ds[i]? = some ds[i] := List.getElem?_eq_getElem hlt
      obtain ⟨go, yl⟩ := hw.1 _ hdi
      rw [List.drop_eq_getElem_cons hlt] at y3
      obtain ⟨env1, b, z1, z2, z3⟩ := lcD_cons y3
      refine .inr ⟨go, fun H2 => i + 1 ≤ ds.length ∧ Ex (cut H1 O) (cut H2 (D :: O)) ∧ (∀ l ∈ O, ∀ o, H1 l = some o → H2 l = some o) ∧ ∃ acc rs rest, H2 D = some (.lst acc) ∧ DpAll K (cut H2 (D :: O)) acc rs ∧ lcD bind mt me (wipeD env vs) (ds.drop (i + 1)) = some rest ∧ rs ++ rest = r, fun H2 p => ⟨ds.length - (i + 1), by omega, p.1, rfl, p.2⟩, fun x H2 hy => ?_⟩
      obtain ⟨e2, hx⟩ := yl x H2 hy
      refine hk x σ H2 _ ?_
      refine hg H0 O0 (D :: O) (wipe σ vs) H2 (wipeD env vs) ds[i] env1 x (s3.ex e2) hx z1 _ fun σ2 s4 => ?_
      refine ht H0 O0 (D :: O) σ2 H2 env1 b s4 z2 _ fun H3 e3 => ?_
      have s5 := s4.ex e3
      have e23 := e2.trans e3
      have accLen : acc.length < sizeLine ∨ b = false := by
        rcases z3 with ⟨_, x', r', _, z5, z6⟩ | ⟨z4, _⟩
        · left
          have l1 := dpAll_len y2
          have l2 : (rs ++ rest).length = r.length := by rw [y4]
          rw [List.length_append, z6, List.length_cons] at l2
          omega
        · exact .inr z4
      rcases z3 with ⟨z4, x', r', z5, z6, z7⟩ | ⟨z4, z5⟩
      · subst z4
        rw [if_pos rfl]
        refine he H0 O0 (D :: O) σ2 H3 env1 x' s5 z5 _ fun y H4 e4 hy4 => ?_
        have e24 := e23.trans e4
        have hD4 : H4 D = some (.lst acc) := e24 _ _ y1
        have ec : cut (upd H4 D (.lst (acc ++ [y]))) (D :: O) = cut H4 (D :: O) := cut_write List.mem_cons_self
        refine ⟨acc, hD4, accLen.resolve_right (fun z => by cases z), by omega, ?_, fun l hl o ho => ?_, acc ++ [y], rs ++ [x'], r', upd_same, ?_, z6, by rw [List.append_assoc]; rw [z7] at y4; exact y4⟩
        · rw [ec]
          exact x1.trans (cut_mono e24)
        · rw [upd_ne fun (z : l = D) => nD (by rw [← z]; exact hl)]
          exact e24 _ _ (x2 l hl o ho)
        · rw [ec]
          exact dpAll_app (dpAll_ex (cut_mono e24) y2) (.cons hy4 .nil)
      · subst z4
        rw [if_neg (show ¬ false = true from Bool.false_ne_true)]
        exact ⟨by omega, x1.trans (cut_mono e23), fun l hl o ho => e23 _ _ (x2 l hl o ho), acc, rs, rest, e23 _ _ y1, dpAll_ex (cut_mono e23) y2, z5, y4⟩
    · have hle : ds.length ≤ i := by omega
      refine .inl ⟨hw.2 (by omega), q _ H' (e1.trans xx) ?_⟩
      rw [List.drop_of_length_le hle] at y3
      cases y3
      rw [List.append_nil] at y4
      subst y4
      have xD : Ex (cut H' (D :: O)) (cut H' O) := cut_less fun a h => List.mem_cons_of_mem _ h
      exact .lst (.inl (.inl (by rw [cut_out nD]; exact y1))) (dpAll_ex xD y2)
end

end Rv
namespace Rv
open PySem L2 PySem.Spec PyProof.Rows
/-! The data layer, part 8: blocks, statements, defs. -/

/-- a comprehension's blocks over a family -/
structure BI (ι : Type) where
  i : ι
  s : Shared
  H : Hp
  C : Addr
  cl : List (Str × Addr)
  fp : List Addr
abbrev blkF {ι : Type} (X : ι → Cx) (scope : Scope) : BI ι → Cx := fun p => (X p.i).blk p.s p.H scope (compEnvC scope p.cl p.C (X p.i).env) p.fp
section
variable {ι : Type} {X : ι → Cx} {K : PySem.W.Frag} {N : List Str} {k : Nat} {M : List Nat} {a b c e tg : Expr} {ta tb tc te : TE} {ma mb mc me : En → Option PyData} {pos : Pos}
theorem Fam.blk (F : Fam X K N k) (scope : Scope) : Fam (blkF X scope) K N k := ⟨fun p => F.hK p.i, fun p => F.calm p.i, fun p => F.room p.i, fun p => F.hN p.i, F.nd⟩
theorem sc_blk {sc scope : Scope} (h : ∀ i, (X i).env.scope = sc) : ∀ p, (blkF X scope p).env.scope = relS scope sc := fun p => by
  show relS scope (X p.i).env.scope = relS scope sc
  rw [h p.i]
theorem wipe_set {σ : L2.St} {j : Nat} {x : Option V} : ∀ {vs : List Nat}, j ∈ vs → wipe (σ.set j x) vs = wipe σ vs
  | v :: vs, h => by
    unfold wipe
    by_cases z : j ∈ vs
    · rw [wipe_set z]
    · have e : j = v := (List.mem_cons.mp h).resolve_right z
      subst e
      have out : ∀ ws : List Nat, j ∉ ws → wipe (σ.set j x) ws = (wipe σ ws).set j x := fun ws => by
        induction ws with
        | nil => exact fun _ => rfl
        | cons w ws ih =>
          intro hw
          have hn : j ≠ w := fun q => hw (by rw [q]; exact List.mem_cons_self)
          show (wipe (σ.set j x) ws).set w none = ((wipe σ ws).set w none).set j x
          rw [ih fun q => hw (List.mem_cons_of_mem _ q), List.set_comm _ _ hn]
      rw [out vs z, List.set_set]
theorem wipe_wipe {σ : L2.St} (vs : List Nat) : wipe (wipe σ vs) vs = wipe σ vs := by
  have h : ∀ (ws : List Nat), (∀ w ∈ ws, w ∈ vs) → wipe (wipe σ ws) vs = wipe σ vs := fun ws => by
    induction ws with
    | nil => exact fun _ => rfl
    | cons w ws ih =>
      intro hw
      show wipe ((wipe σ ws).set w none) vs = wipe σ vs
      rw [wipe_set (hw w List.mem_cons_self), ih fun v hv => hw v (List.mem_cons_of_mem _ hv)]
  exact h vs fun _ z => z
/-- a target that stores into the slots vs alone -/
def GK (vs : List Nat) (g : TG) : Prop := ∀ x σ H (Q : L2.St → Hp → Prop), g x σ H Q → g x σ H fun σ2 H2 => wipe σ2 vs = wipe σ vs ∧ Q σ2 H2
def GKs (vs : List Nat) (g : TGs) : Prop := ∀ xs σ H (Q : L2.St → Hp → Prop), g xs σ H Q → g xs σ H fun σ2 H2 => wipe σ2 vs = wipe σ vs ∧ Q σ2 H2
theorem gk_name {vs : List Nat} {j : Nat} (h : j ∈ vs := by decide) : GK vs (gName j) := fun x σ H Q q => ⟨wipe_set h, q⟩
theorem gk_nil {vs : List Nat} : GKs vs gNil := fun xs σ H Q q => ⟨q.1, rfl, q.2⟩
theorem GK.mono {vs : List Nat} {g : TG} (h : ∀ x σ H (Q Q' : L2.St → Hp → Prop), (∀ σ' H', Q σ' H' → Q' σ' H') → g x σ H Q → g x σ H Q') : True := trivial
theorem gk_cons1 {vs : List Nat} {j : Nat} {gs : TGs} (h : j ∈ vs) (hs : GKs vs gs) : GKs vs (gCons (gName j) gs) := fun xs σ H Q q => by
  obtain ⟨v, r, e, q⟩ := q
  refine ⟨v, r, e, ?_⟩
  have q' : gs r (σ.set j (some v)) H Q := q
  have := hs r (σ.set j (some v)) H Q q'
  rw [wipe_set h] at this
  exact this
theorem gk_tup {vs : List Nat} {n : Nat} {gs : TGs} (hs : GKs vs gs) : GK vs (gTup K n gs) := fun x σ H Q q => by
  obtain ⟨a, xs, e, h1, h2, q⟩ := q
  exact ⟨a, xs, e, h1, h2, hs xs σ H Q q⟩
structure MTs {ι : Type} (X : ι → Cx) (K : PySem.W.Frag) (M : List Nat) (es : List Expr) (t : TT) (m : En → Option Bool) : Prop where
  pt : ∀ i, PTs (X i) es t
  sd : SndT K M t m
def mYes : En → Option Bool := fun _ => some true
theorem ts_nil : MTs X K M [] tYes mYes := ⟨fun _ => pts_nil, fun H0 O0 O σ H env b s hm Q q => by
  cases hm
  exact q H (Ex.refl H)⟩
theorem ts_one {t : TT} {m : En → Option Bool} (h : MT X K M e t m) : MTs X K M [e] t m := ⟨fun i => pts_one (h.pt i), h.sd⟩
theorem d_lc (F : Fam X K N k) {iter : Expr} {ifs : List Expr} {scope sc : Scope} (own : List (Str × Nat)) {wi : TI} {mi : En → Option (List PyData)} {g : TG} {bind : PyData → En → Option En} {tt : TT} {mt : En → Option Bool}
    (hi : MI X K M tg iter wi mi true) (hsc : ∀ i, (X i).env.scope = sc) (ok : BlkOk N sc scope own) (hg : MG (blkF X scope) K M tg g bind) (hk : GK (own.map (·.2)) g) (ht : MTs (blkF X scope) K M ifs tt mt) (he : MD (blkF X scope) K M e te me) (hs : ∀ i x, foldedSetIterable iter (X i).env x = pure x := by exact fun _ _ => rfl) :
    MD X K M (.ListComp e [⟨tg, iter, ifs, 0⟩] scope pos) (tLc wi g tt te (own.map (·.2))) (mLc (own.map (·.2)) mi bind mt me) :=
  ⟨fun i => pe_lc (F.calm i) (by rw [F.hN i]; exact F.nd) (hi.pi i) (by rw [F.hN i, hsc i]; exact ok) (fun s H C cl fp => hg.pg ⟨i, s, H, C, cl, fp⟩) (fun s H C cl fp => ht.pt ⟨i, s, H, C, cl, fp⟩) (fun s H C cl fp => he.pe ⟨i, s, H, C, cl, fp⟩) (hs i),
    snd_lc hi.sd hg.sd (fun x σ H Q q => by
      have := hk x (wipe σ (own.map (·.2))) H Q q
      rw [wipe_wipe] at this
      exact this) ht.sd he.sd⟩

/-! ### statements -/
structure MS {ι : Type} (X : ι → Cx) (K : PySem.W.Frag) (M : List Nat) (st : Stmt) (t : TS) (m : En → Option Fl) : Prop where
  ps : ∀ i, PS (X i) st t
  sd : SndS K M t m
structure MSs {ι : Type} (X : ι → Cx) (K : PySem.W.Frag) (M : List Nat) (sts : List Stmt) (t : TS) (m : En → Option Fl) : Prop where
  ps : ∀ i, PSs (X i) sts t
  sd : SndS K M t m
def mNext : En → Option Fl := fun env => some (.nx env)
theorem ss_nil : MSs X K M [] tNext mNext := ⟨fun _ => pss_nil, fun H0 O0 O σ H env fl D s hm q => by
  cases hm
  exact q σ H O s (Ex.refl _)⟩
def mSeq (m n : En → Option Fl) : En → Option Fl := fun env => (m env).bind fun f => match f with
  | .nx env' => n env'
  | f => some f
theorem Cont.weaken {H0 H H1 : Hp} {O0 O O1 : List Addr} {D : Ends} {fl : Fl} (e : Ex (cut H O) (cut H1 O1)) (h : Cont K M H0 O0 O H D fl) : Cont K M H0 O0 O1 H1 D fl := by
  cases fl with
  | nx env => exact fun σ' H' O' s x => h σ' H' O' s (e.trans x)
  | rt d => exact h
  | bk env => exact fun σ' H' O' s x => h σ' H' O' s (e.trans x)
  | ct env => exact fun σ' H' O' s x => h σ' H' O' s (e.trans x)
theorem snd_seq {t u : TS} {m n : En → Option Fl} (h1 : SndS K M t m) (h2 : SndS K M u n) : SndS K M (tSeq t u) (mSeq m n) := fun H0 O0 O σ H env fl D s hm q => by
  obtain ⟨f, g1, g2⟩ := bind1 hm
  cases f with
  | nx env' =>
    exact h1 H0 O0 O σ H env (.nx env') { D with nx := u D } s g1 fun σ' H' O' s' x => h2 H0 O0 O' σ' H' env' fl D s' g2 (q.weaken x)
  | rt d =>
    cases g2
    exact h1 H0 O0 O σ H env (.rt d) { D with nx := u D } s g1 q
  | bk env' =>
    cases g2
    exact h1 H0 O0 O σ H env (.bk env') { D with nx := u D } s g1 q
  | ct env' =>
    cases g2
    exact h1 H0 O0 O σ H env (.ct env') { D with nx := u D } s g1 q
theorem ss_cons {st : Stmt} {rest : List Stmt} {t u : TS} {m n : En → Option Fl} (h1 : MS X K M st t m) (h2 : MSs X K M rest u n) : MSs X K M (st :: rest) (tSeq t u) (mSeq m n) := ⟨fun i => pss_cons (h1.ps i) (h2.ps i), snd_seq h1.sd h2.sd⟩
theorem ss_one {st : Stmt} {t : TS} {m : En → Option Fl} (h1 : MS X K M st t m) : MSs X K M [st] t m := ⟨fun i => pss_one (h1.ps i), h1.sd⟩
def mRet (m : En → Option PyData) : En → Option Fl := fun env => (m env).bind fun d => some (.rt d)
theorem s_ret (h : MD X K M e te me) : MS X K M (.Return (some e) pos) (tRet te) (mRet me) := ⟨fun i => ps_ret (h.pe i), fun H0 O0 O σ H env fl D s hm q => by
  obtain ⟨d, g1, g2⟩ := bind1 hm
  cases g2
  exact h.sd H0 O0 O σ H env d s g1 _ fun v H2 e hv => q v H2 (s.ext.trans e) (dp_ex (cut_less fun a ha => s.sub a ha) hv)⟩
/-- return x, an own list -/
theorem s_retO (i : Nat) (hi : i ∈ M := by decide) (hd : dictS M i = 0 := by decide) (hp : ∀ j, PE (X j) e (tVar i) := by exact fun _ => pv _) : MS X K M (.Return (some e) pos) (tRet (tVar i)) (mRet (mVar i)) := ⟨fun j => ps_ret (hp j), fun H0 O0 O σ H env fl D s hm q => by
  obtain ⟨d, g1, g2⟩ := bind1 hm
  cases g2
  obtain ⟨l, xs, ds, h1, h2, h3, rfl, h5, h6⟩ := s.lst (join_some g1) hi hd
  refine ⟨_, h1, q _ H s.ext ?_⟩
  have x0 : Ex (cut H O) (cut H O0) := cut_less fun a ha => s.sub a ha
  exact .lst (.inl (.inl (by rw [cut_out h3]; exact h5))) (dpAll_ex x0 h6)⟩
def mAsg (m : En → Option PyData) (b : PyData → En → Option En) : En → Option Fl := fun env => (m env).bind fun d => (b d env).bind fun env' => some (.nx env')
theorem snd_asg {g : TG} {b : PyData → En → Option En} (h : Snd K M te me) (hg : SndG K M g b) : SndS K M (tAsg te g) (mAsg me b) := fun H0 O0 O σ H env fl D s hm q => by
  obtain ⟨d, g1, g2⟩ := bind1 hm
  obtain ⟨env', g3, g4⟩ := bind1 g2
  cases g4
  refine h H0 O0 O σ H env d s g1 _ fun v H1 e1 hv => ?_
  exact hg H0 O0 O σ H1 env d env' v (s.ex e1) hv g3 _ fun σ' s' => q σ' H1 O s' (cut_mono e1)
theorem s_asg {g : TG} {b : PyData → En → Option En} (h : MD X K M e te me) (hg : MG X K M tg g b) (hs : ∀ i, swapsWithSole [tg] e pos.line (X i).env = pure false := by exact fun _ => rfl) (hw : ∀ i, swappedStores [tg] e (X i).env = pure none := by exact fun _ => rfl)
    (h1 : ∀ i, (assignEach [tg] (X i).env).map (·.2) = [assign tg (X i).env] := by exact fun _ => rfl) : MS X K M (.Assign [tg] e pos) (tAsg te g) (mAsg me b) := ⟨fun i => ps_asg (h.pe i) (hg.pg i) (hs i) (hw i) (h1 i), snd_asg h.sd hg.sd⟩
theorem s_set (F : Fam X K N k) (i : Nat) {x : Str} {pos' : Pos} (h : MD X K M e te me) (hi : i ∉ M := by decide) (hx : N[i]? = some x := by rfl) (hl : ∀ j, Loc (X j).env.scope x := by first | exact fun _ => Or.inl rfl | exact fun _ => Or.inr rfl) (hs : ∀ j, swapsWith e (some (.Name x pos')) pos.line (X j).env = pure false := by exact fun _ => rfl)
    (hf : ∀ j, (X j).fn x = true ∨ (X j).env.scope.names.lookup x = some .local := by first | exact fun _ => .inl rfl | exact fun _ => .inr rfl) : MS X K M (.Assign [.Name x pos'] e pos) (tAsg te (gName i)) (mAsg me (gB i)) :=
  ⟨fun j => ps_set (by rw [F.hN j]; exact F.nd) (by rw [F.hN j]; exact hx) (hl j) (h.pe j) (hs j) (hf j), snd_asg h.sd fun H0 O0 O σ H env d env' v s hv hb Q q => by
    cases hb
    exact q _ (s.set hi hv)⟩
/-- x = [..] on one line, x a local -/
theorem s_setLc (F : Fam X K N k) (i : Nat) {y : Str} {py spos : Pos} {iter : Expr} {ifs : List Expr} {scope sc : Scope} (own : List (Str × Nat)) {wi : TI} {mi : En → Option (List PyData)} {g : TG} {bind : PyData → En → Option En} {tt : TT} {mt : En → Option Bool}
    (hi : MI X K M tg iter wi mi true) (hsc : ∀ i, (X i).env.scope = sc) (ok : BlkOk N sc scope own) (hg : MG (blkF X scope) K M tg g bind) (hk : GK (own.map (·.2)) g) (ht : MTs (blkF X scope) K M ifs tt mt) (he : MD (blkF X scope) K M e te me)
    (hM : i ∉ M := by decide) (hy : N[i]? = some y := by rfl) (hyl : ∀ j, (X j).env.scope.names.lookup y = some .local := by exact fun _ => rfl) (hsw : ∀ j, swapsWith (.ListComp e [⟨tg, iter, ifs, 0⟩] scope pos) (some (.Name y py)) spos.line (X j).env = pure true := by exact fun _ => sw_true rfl rfl rfl (by decide +kernel)) (hs : ∀ i x, foldedSetIterable iter (X i).env x = pure x := by exact fun _ _ => rfl) :
    MS X K M (.Assign [.Name y py] (.ListComp e [⟨tg, iter, ifs, 0⟩] scope pos) spos) (tAsg (tLc wi g tt te (own.map (·.2))) (gName i)) (mAsg (mLc (own.map (·.2)) mi bind mt me) (gB i)) :=
  ⟨fun j => ps_setLc (F.calm j) (by rw [F.hN j]; exact F.nd) (by rw [F.hN j]; exact hy) (hyl j) (hsw j) (hi.pi j) (by rw [F.hN j, hsc j]; exact ok) (fun s H C cl fp => hg.pg ⟨j, s, H, C, cl, fp⟩) (fun s H C cl fp => ht.pt ⟨j, s, H, C, cl, fp⟩) (fun s H C cl fp => he.pe ⟨j, s, H, C, cl, fp⟩) (hs j),
    snd_asg (snd_lc hi.sd hg.sd (fun x σ H Q q => by
      have := hk x (wipe σ (own.map (·.2))) H Q q
      rw [wipe_wipe] at this
      exact this) ht.sd he.sd) fun H0 O0 O σ H env d env' v s hv hb Q q => by
    cases hb
    exact q _ (s.set hM hv)⟩
/-- a, b = x, y -/
def mPar (i j : Nat) (ms : En → Option (List PyData)) : En → Option Fl := fun env => (ms env).bind fun ds => match ds with
  | [d, f] => some (.nx ((env.set i (some d)).set j (some f)))
  | _ => none
theorem s_par (F : Fam X K N k) (i j : Nat) {x y : Str} {t : TA} {ms : En → Option (List PyData)} {px py pt : Pos} {kt k2 : Nat} {pt2 : Pos} (h : MA X K M [a, b] t ms) (hi : N[i]? = some x := by rfl) (hj : N[j]? = some y := by rfl) (hij : i ≠ j := by decide) (mi : i ∉ M := by decide) (mj : j ∉ M := by decide)
    (hx : ∀ q, (X q).env.scope.names.lookup x = some .local := by exact fun _ => rfl) (hy : ∀ q, (X q).env.scope.names.lookup y = some .local := by exact fun _ => rfl) (hw : ∀ q, swappedStores [.Tuple [.Name x px, .Name y py] kt pt] (.Tuple [a, b] k2 pt2) (X q).env = pure (some [x, y]) := by exact fun _ => rfl)
    (hs : ∀ q, swapsWithSole [.Tuple [.Name x px, .Name y py] kt pt] (.Tuple [a, b] k2 pt2) pos.line (X q).env = pure false := by exact fun _ => rfl) : MS X K M (.Assign [.Tuple [.Name x px, .Name y py] kt pt] (.Tuple [a, b] k2 pt2) pos) (tPar i j t) (mPar i j ms) :=
  ⟨fun q => ps_par (F.calm q) (by rw [F.hN q]; exact F.nd) (by rw [F.hN q]; exact hi) (by rw [F.hN q]; exact hj) hij (hx q) (hy q) (h.pa q) (hw q) (hs q), fun H0 O0 O σ H env fl D s hm q => by
    obtain ⟨ds, g1, g2⟩ := bind1 hm
    refine h.sd H0 O0 O σ H env ds s g1 _ fun vs H1 e1 hv => ?_
    cases hv with
    | nil => cases g2
    | cons h1 ht =>
      cases ht with
      | nil => cases g2
      | cons h2 ht =>
        cases ht with
        | cons _ _ => cases g2
        | nil =>
          cases g2
          exact ⟨_, _, rfl, q _ H1 O (((s.ex e1).set mi h1).set mj h2) (cut_mono e1)⟩⟩
def mIfS (mt : En → Option Bool) (m n : En → Option Fl) : En → Option Fl := fun env => (mt env).bind fun b => if b = true then m env else n env
theorem s_if {t : TT} {u w : TS} {m : En → Option Bool} {n p : En → Option Fl} {bs cs : List Stmt} (hc : MT X K M c t m) (ha : MSs X K M bs u n) (hb : MSs X K M cs w p) : MS X K M (.If c bs cs pos) (tIfS t u w) (mIfS m n p) := ⟨fun i => ps_if (hc.pt i) (ha.ps i) (hb.ps i), fun H0 O0 O σ H env fl D s hm q => by
  obtain ⟨x, g1, g2⟩ := bind1 hm
  refine hc.sd H0 O0 O σ H env x s g1 _ fun H1 e1 => ?_
  cases x with
  | true =>
    rw [if_pos rfl] at g2 ⊢
    exact ha.sd H0 O0 O σ H1 env fl D (s.ex e1) g2 (q.weaken (cut_mono e1))
  | false =>
    rw [if_neg Bool.false_ne_true] at g2 ⊢
    exact hb.sd H0 O0 O σ H1 env fl D (s.ex e1) g2 (q.weaken (cut_mono e1))⟩
/-- x op= e -/
def mAug (i : Nat) (f : PyData → PyData → Option PyData) (m : En → Option PyData) : En → Option Fl := fun env => (mVar i env).bind fun a => (m env).bind fun b => (f a b).bind fun d => some (.nx (env.set i (some d)))
theorem s_aug (F : Fam X K N k) (i : Nat) {x : Str} {op : Operator} {r : R2} {f : PyData → PyData → Option PyData} {pos' : Pos} (ho : ∀ j, PIp (X j) op r) (hf : OpD K r f) (h : MD X K M e te me) (hi : i ∉ M := by decide) (hx : N[i]? = some x := by rfl) (hl : ∀ j, Loc (X j).env.scope x := by first | exact fun _ => Or.inl rfl | exact fun _ => Or.inr rfl)
    (hfn : ∀ j, (X j).fn x = true ∨ (X j).env.scope.names.lookup x = some .local := by first | exact fun _ => .inl rfl | exact fun _ => .inr rfl) : MS X K M (.AugAssign (.Name x pos') op e pos) (tAug i te r) (mAug i f me) :=
  ⟨fun j => ps_aug (by rw [F.hN j]; exact F.nd) (by rw [F.hN j]; exact hx) (hl j) (h.pe j) (ho j) (hfn j), fun H0 O0 O σ H env fl D s hm q => by
    obtain ⟨d1, d2, g1, g2, g3⟩ := bind2 hm
    obtain ⟨d, g4, g5⟩ := bind1 g3
    cases g5
    obtain ⟨v, h1, h2⟩ := s.sh i d1 (join_some g1) hi
    refine ⟨v, h1, h.sd H0 O0 O σ H env d2 s g2 _ fun w H1 e1 hw => ?_⟩
    refine hf H1 O v w d1 d2 d (s.ex e1).there (.inl (dp_ex (cut_mono e1) h2)) (.inl hw) g4 _ fun z H2 e2 hz => ?_
    exact q _ H2 O (((s.ex e1).ex e2).set hi hz) ((cut_mono e1).trans (cut_mono e2))⟩
/-- for -/
def loopD (bind : PyData → En → Option En) (body : En → Option Fl) : List PyData → En → Option Fl
  | [], env => some (.nx env)
  | d :: ds, env => (bind d env).bind fun env1 => (body env1).bind fun f => match f with
    | .nx e => loopD bind body ds e
    | .ct e => loopD bind body ds e
    | .bk e => some (.nx e)
    | .rt r => some (.rt r)
def mFor (mi : En → Option (List PyData)) (bind : PyData → En → Option En) (body : En → Option Fl) : En → Option Fl := fun env => (mi env).bind fun ds => loopD bind body ds env
theorem s_for (F : Fam X K N k) {iter : Expr} {body : List Stmt} {wi : TI} {mi : En → Option (List PyData)} {g : TG} {bind : PyData → En → Option En} {tb : TS} {m : En → Option Fl} (hp : ∀ i, PassesOwn (model (X i).prog (X i).w) (X i).A (X i).env (X i).xe) (hi : MI X K M tg iter wi mi false) (hg : MG X K M tg g bind) (hb : MSs X K M body tb m)
    (hs : ∀ i x, foldedSetIterable iter (X i).env x = pure x := by exact fun _ _ => rfl) : MS X K M (.For tg iter body [] pos) (tFor wi g tb) (mFor mi bind m) := ⟨fun i => ps_for (hp i) (F.calm i) (hi.pi i) (hg.pg i) (hb.ps i) (hs i), fun H0 O0 O σ H env fl D s hm q => by
  obtain ⟨ds, g1, g2⟩ := bind1 hm
  refine hi.sd H0 O0 O σ H env ds s g1 _ fun J H1 e1 wk => ?_
  refine ⟨fun i m' σ' H' => i ≤ ds.length ∧ m' = ds.length - i ∧ ∃ O' env', Sl K M H0 O0 O' σ' H' env' ∧ Ex (cut H1 O) (cut H' O') ∧ loopD bind m (ds.drop i) env' = some fl,
    ⟨ds.length, Nat.zero_le _, rfl, O, env, s.ex e1, Ex.refl _, g2⟩, fun i m' σ' H' w => ?_⟩
  obtain ⟨hil, rfl, O', env', s', x', l'⟩ := w
  have hw := wk H' O' x' s'.there (fun z => nomatch z) i
  by_cases hlt : i < ds.length
  · obtain ⟨go, yl⟩ := hw.1 _ (List.getElem?_eq_getElem hlt)
    rw [List.drop_eq_getElem_cons hlt] at l'
    obtain ⟨env1, z1, z2⟩ := bind1 (show ((bind _ env').bind _) = some fl from l')
    obtain ⟨f, z3, z4⟩ := bind1 z2
    refine .inr ⟨go, fun σ2 H2 => i + 1 ≤ ds.length ∧ ∃ O2 env2, Sl K M H0 O0 O2 σ2 H2 env2 ∧ Ex (cut H1 O) (cut H2 O2) ∧ loopD bind m (ds.drop (i + 1)) env2 = some fl, fun σ2 H2 p => ⟨ds.length - (i + 1), by omega, p.1, rfl, p.2⟩, fun x H2 hy => ?_⟩
    obtain ⟨e2, hx⟩ := yl x H2 hy
    refine hg.sd H0 O0 O' σ' H2 env' ds[i] env1 x (s'.ex e2) hx z1 _ fun σ2 s2 => ?_
    have xx : Ex (cut H1 O) (cut H2 O') := x'.trans (cut_mono e2)
    refine hb.sd H0 O0 O' σ2 H2 env1 f _ s2 z3 ?_
    cases f with
    | nx e => exact fun σ3 H3 O3 s3 x3 => ⟨by omega, O3, e, s3, xx.trans x3, z4⟩
    | ct e => exact fun σ3 H3 O3 s3 x3 => ⟨by omega, O3, e, s3, xx.trans x3, z4⟩
    | bk e =>
      cases z4
      exact fun σ3 H3 O3 s3 x3 => q σ3 H3 O3 s3 (((cut_mono e1).trans xx).trans x3)
    | rt r =>
      cases z4
      exact q
  · have hle : ds.length ≤ i := by omega
    rw [List.drop_of_length_le hle] at l'
    cases l'
    exact .inl ⟨hw.2 (by omega), q σ' H' O' s' ((cut_mono e1).trans x')⟩⟩
theorem s_pass : MS X K M (.Pass pos) tNext mNext := ⟨fun _ => ps_pass, fun H0 O0 O σ H env fl D s hm q => by
  cases hm
  exact q σ H O s (Ex.refl _)⟩
theorem s_continue : MS X K M (.Continue pos) (fun D σ H => D.ct σ H) (fun env => some (.ct env)) := ⟨fun _ => ps_continue, fun H0 O0 O σ H env fl D s hm q => by
  cases hm
  exact q σ H O s (Ex.refl _)⟩
theorem s_break : MS X K M (.Break pos) (fun D σ H => D.bk σ H) (fun env => some (.bk env)) := ⟨fun _ => ps_break, fun H0 O0 O σ H env fl D s hm q => by
  cases hm
  exact q σ H O s (Ex.refl _)⟩

/-! ### own lists -/
/-- x = a new list -/
def SndF (K : PySem.W.Frag) (M : List Nat) (t : TE) (m : En → Option PyData) : Prop :=
  ∀ H0 O0 O σ H env d, Sl K M H0 O0 O σ H env → m env = some d → ∀ Q : VK, (∀ p xs ds H2, H p = none → Ex H H2 → d = .list ds → H2 p = some (.lst xs) → DpAll K (cut H2 (p :: O)) xs ds → Q (.ref p) H2) → t σ H Q
structure MF {ι : Type} (X : ι → Cx) (K : PySem.W.Frag) (M : List Nat) (e : Expr) (t : TE) (m : En → Option PyData) : Prop where
  pe : ∀ i, PE (X i) e t
  sd : SndF K M t m
theorem cut_new' {H : Hp} {O : List Addr} {p : Addr} {o : HO} (hp : H p = none) : Ex (cut H O) (cut (upd H p o) (p :: O)) := by
  rw [cut_cons hp]
  exact Ex.refl _
theorem f_nil : MF X K M (.List [] pos) (tLst tNil) (mLst mNil) := ⟨fun _ => pe_lst pa_nil, fun H0 O0 O σ H env d s hm Q q => by
  have e : PyData.list [] = d := Option.some.inj hm
  subst e
  exact ⟨Nat.zero_le _, fun p hp => q p [] [] _ hp (Ex.new hp) rfl upd_same .nil⟩⟩
theorem s_own (F : Fam X K N k) (i : Nat) {x : Str} {pos' : Pos} (h : MF X K M e te me) (hi : i ∈ M := by decide) (hd : dictS M i = 0 := by decide) (hx : N[i]? = some x := by rfl) (hl : ∀ j, Loc (X j).env.scope x := by first | exact fun _ => Or.inl rfl | exact fun _ => Or.inr rfl) (hs : ∀ j, swapsWith e (some (.Name x pos')) pos.line (X j).env = pure false := by exact fun _ => rfl)
    (hf : ∀ j, (X j).fn x = true ∨ (X j).env.scope.names.lookup x = some .local := by first | exact fun _ => .inl rfl | exact fun _ => .inr rfl) : MS X K M (.Assign [.Name x pos'] e pos) (tAsg te (gName i)) (mAsg me (gB i)) :=
  ⟨fun j => ps_set (by rw [F.hN j]; exact F.nd) (by rw [F.hN j]; exact hx) (hl j) (h.pe j) (hs j) (hf j), fun H0 O0 O σ H env fl D s hm q => by
    obtain ⟨d, g1, g2⟩ := bind1 hm
    obtain ⟨env', g3, g4⟩ := bind1 g2
    cases g3
    cases g4
    refine h.sd H0 O0 O σ H env d s g1 _ fun p xs ds H2 hp e hd hl' ha => ?_
    subst hd
    refine q _ H2 (p :: O) (s.own hi hd hp e hl' ha) fun a o hq => ?_
    by_cases z : a ∈ O
    · rw [cut_in z] at hq
      cases hq
    · rw [cut_out z] at hq
      rw [cut_out (by
        simp only [List.mem_cons, not_or]
        exact ⟨(fun y => by rw [y, hp] at hq; cases hq), z⟩)]
      exact e _ _ hq⟩
/-- x.append(e) -/
def mApp (i : Nat) (m : En → Option PyData) : En → Option Fl := fun env => (mVar i env).bind fun l => (m env).bind fun d => match l with
  | .list ds => if ds.length < sizeLine then some (.nx (env.set i (some (.list (ds ++ [d]))))) else none
  | _ => none
theorem s_app (F : Fam X K N k) (i : Nat) {x : Str} {p1 p2 p3 : Pos} (h : MD X K M e te me) (hi : i ∈ M := by decide)
    (hp : ∀ j, PS (X j) (.Expr (.Call (.Attribute (.Name x p1) "append" p2) [e] [] p3) pos) (tDrop (tBM (X j).K "list" rAppend (tVar i) (tCons te tNil)))) (hd : dictS M i = 0 := by decide) : MS X K M (.Expr (.Call (.Attribute (.Name x p1) "append" p2) [e] [] p3) pos) (tDrop (tBM K "list" rAppend (tVar i) (tCons te tNil))) (mApp i me) :=
  ⟨fun j => by
    have := hp j
    rw [F.hK j] at this
    exact this, fun H0 O0 O σ H env fl D s hm q => by
    obtain ⟨d1, d2, g1, g2, g3⟩ := bind2 hm
    obtain ⟨l, xs, ds, h1, h2, h3, rfl, h5, h6⟩ := s.lst (join_some g1) hi hd
    obtain ⟨hz, e⟩ := ite_some (show (if ds.length < sizeLine then some (Fl.nx (env.set i (some (.list (ds ++ [d2]))))) else none) = some fl from g3)
    subst e
    refine ⟨_, h1, .inl ⟨rfl, xs, .inl (.inl h5)⟩, h.sd H0 O0 O σ H env d2 s g2 _ fun v H1 e1 hv => ?_⟩
    have s1 := s.ex e1
    refine ⟨l, xs, v, rfl, rfl, e1 _ _ h5, by rw [dpAll_len h6]; exact hz, ?_⟩
    refine q σ _ O (s1.write hi hd (join_some g1) h1 h2 h3 (dpAll_app (dpAll_ex (cut_mono e1) h6) (.cons hv .nil))) ?_
    rw [cut_write h2]
    exact cut_mono e1⟩

/-! ### a def -/
def runB (n : Nat) (m : En → Option Fl) : List PyData → Option PyData := fun ds => (m (ds.map some ++ List.replicate (n - ds.length) none)).bind fun f => match f with
  | .nx _ => some .none
  | .rt d => some d
  | _ => none
theorem start_sl {H : Hp} {O : List Addr} {vs : List V} {ds : List PyData} {n : Nat} (ht : ∀ l ∈ O, ∃ o, H l = some o) (h : DpAll K (cut H O) vs ds) (hM : ∀ i ∈ M, vs.length ≤ i) : Sl K M H O O (vs.map some ++ List.replicate (n - vs.length) none) H (ds.map some ++ List.replicate (n - ds.length) none) := by
  have hl := dpAll_len h
  have inv : ∀ i d, (ds.map some ++ List.replicate (n - ds.length) none)[i]? = some (some d) → ds[i]? = some d := fun i d q => by
    by_cases z : i < ds.length
    · rw [List.getElem?_append_left (by rw [List.length_map]; exact z), List.getElem?_map] at q
      cases hd : ds[i]? with
      | none =>
        rw [hd] at q
        cases q
      | some x =>
        rw [hd] at q
        have : some x = some d := Option.some.inj q
        rw [this]
    · rw [List.getElem?_append_right (by rw [List.length_map]; omega), List.getElem?_replicate] at q
      split at q
      · cases q
      · cases q
  refine ⟨Ex.refl H, fun l h => .inl h, fun l h => h, ht, fun i d q _ => ?_, fun i d q hm => ?_, fun i j d e l hm hj q _ _ _ => ?_, by rw [List.length_append, List.length_append, List.length_map, List.length_map, List.length_replicate, List.length_replicate, hl]⟩
  · obtain ⟨v, h1, h2⟩ := dpAll_get' h (inv i d q)
    have hi := (List.getElem?_eq_some_iff.mp h1).1
    exact ⟨v, by rw [List.getElem?_append_left (by rw [List.length_map]; exact hi), List.getElem?_map, h1]; rfl, h2⟩
  · have := (List.getElem?_eq_some_iff.mp (inv i d q)).1
    have := hM i hm
    omega
  · have := (List.getElem?_eq_some_iff.mp (inv i d q)).1
    have := hM i hm
    omega
section
variable {P : Program} {w : World} {mg : Str → Option Value} {base : Heap}
/-- the contexts of a def's body -/
structure DI where
  cdv : Value
  A : Around
  outer : List Env
  s : Shared
  H : Hp
  E : XK
abbrev defF (P : Program) (w : World) (K : PySem.W.Frag) (mg : Str → Option Value) (base : Heap) (N : List Str) (qual : Str) (sc : Scope) (f : Addr) (j : Nat) : {p : DI // Room j (p.A.deeper (envOfC qual sc p.s.heap.objs.size f p.cdv))} → Cx := fun p => (cxOf CX0 P w K mg base N qual sc f p.1.cdv p.1.A p.1.outer p.1.s p.1.H p.1.E).nox
theorem defF_fam {qual : Str} {sc : Scope} {f : Addr} {j : Nat} (nd : N.Nodup) : Fam (defF P w K mg base N qual sc f j) K N j := ⟨fun _ => rfl, fun _ => rfl, fun p => p.2, fun _ => rfl, nd⟩
theorem fn_data {x qual : Str} {st : Stmt} {f : Addr} {fd : FuncData} {ps : List Str} {j : Nat} {t : TS} {m : En → Option Fl} (F : Fun K x qual st f fd) (S : FnScope N ps (defScope st)) (hM : ∀ i ∈ M, ps.length ≤ i) (h : MSs (defF P w K mg base N qual (defScope st) f j) K M (defBody st) t m) :
    FnOk P w K mg base CX0 (j + 1) f fd ps (spD K ps.length (runB N.length m)) := by
  refine F.ok S (fun vs H Q E hq => ?_) fun cdv A outer s H vs Q E hr hq => ?_
  · obtain ⟨ds, d, O, hl, _⟩ := hq
    exact hl
  · obtain ⟨ds, d, O, hl, ht, hv, hf, q⟩ := hq
    refine ⟨t, h.ps ⟨⟨cdv, A, outer, s, H, E⟩, hr⟩, ?_⟩
    obtain ⟨fl, g1, g2⟩ := bind1 hf
    refine h.sd H O O _ H _ fl _ (start_sl (n := N.length) ht hv (by rw [hl]; exact hM)) g1 ?_
    cases fl with
    | nx env =>
      cases g2
      exact fun σ' H' O' s' _ => q _ H' s'.ext .non
    | rt r =>
      cases g2
      exact fun v H' e hv => q v H' e hv
    | bk env => cases g2
    | ct env => cases g2
end
end

end Rv
namespace Rv
open PySem L2 PySem.Spec PyProof.Rows
/-! The data layer, part 9: built-ins on data. -/

section
variable {K : PySem.W.Frag}
theorem dq1 {H : Hp} {O : List Addr} {vs : List V} {d : PyData} (h : DqAll K H O vs [d]) : ∃ v, vs = [v] ∧ Dq K H O v d := by
  cases h with
  | cons h1 h2 =>
    cases h2
    exact ⟨_, rfl, h1⟩
theorem dq2 {H : Hp} {O : List Addr} {vs : List V} {d e : PyData} (h : DqAll K H O vs [d, e]) : ∃ v w, vs = [v, w] ∧ Dq K H O v d ∧ Dq K H O w e := by
  cases h with
  | cons h1 h2 =>
    obtain ⟨w, rfl, h3⟩ := dq1 h2
    exact ⟨_, w, rfl, h1, h3⟩
/-! ### len -/
def bLen : List PyData → Option PyData
  | [.list xs] => some (.int xs.length)
  | [.tuple xs] => some (.int xs.length)
  | [.str x] => if x.length ≤ sizeLine then some (.int x.length) else none
  | _ => none
def rLenA (K : PySem.W.Frag) : List V → Hp → VK → Prop := fun xs H Q => ∃ x n, xs = [x] ∧ LenV K x H n ∧ Q (.int n) H
theorem cr_len {X : Cx} (hK : X.K = K) : CallR X (.builtin "len") (rLenA K) := by
  subst hK
  exact call_len
theorem crd_len : CrD K (rLenA K) bLen := fun H O vs ds d ht h hf Q q => by
  unfold bLen at hf
  split at hf
  · obtain ⟨v, rfl, h1⟩ := dq1 h
    obtain ⟨a, xs, rfl, s1, a1⟩ := h1.list
    cases hf
    exact ⟨_, _, rfl, .inl ⟨xs, s1, (dpAll_len a1).symm⟩, q _ H (Ex.refl H) (.int _)⟩
  · obtain ⟨v, rfl, h1⟩ := dq1 h
    obtain ⟨a, xs, rfl, s1, a1, _⟩ := h1.tuple
    cases hf
    exact ⟨_, _, rfl, .inr ⟨xs, s1, (dpAll_len a1).symm⟩, q _ H (Ex.refl H) (.int _)⟩
  · obtain ⟨v, rfl, h1⟩ := dq1 h
    obtain ⟨hz, e⟩ := ite_some hf
    subst e
    have := h1.str
    subst this
    exact ⟨_, _, rfl, ⟨hz, rfl⟩, q _ H (Ex.refl H) (.int _)⟩
  · cases hf
/-! ### list, tuple -/
def bList : List PyData → Option PyData
  | [.list xs] => some (.list xs)
  | [.tuple xs] => some (.list xs)
  | _ => none
def rListA (K : PySem.W.Frag) : List V → Hp → VK → Prop := fun xs H Q => ∃ p ys, xs = [.ref p] ∧ (SqL K H p ys ∨ SqT K H p ys) ∧ ∀ l, H l = none → Q (.ref l) (upd H l (.lst ys))
theorem cr_list {X : Cx} (hK : X.K = K) : CallR X (.type "list") (rListA K) := by
  subst hK
  exact call_list_of
theorem crd_list : CrD K (rListA K) bList := fun H O vs ds d ht h hf Q q => by
  unfold bList at hf
  split at hf
  · obtain ⟨v, rfl, h1⟩ := dq1 h
    obtain ⟨a, xs, rfl, s1, a1⟩ := h1.list
    cases hf
    exact ⟨a, xs, rfl, .inl s1, fun l hl => q _ _ (Ex.new hl) (new_list ht hl a1)⟩
  · obtain ⟨v, rfl, h1⟩ := dq1 h
    obtain ⟨a, xs, rfl, s1, a1, _⟩ := h1.tuple
    cases hf
    exact ⟨a, xs, rfl, .inr s1, fun l hl => q _ _ (Ex.new hl) (new_list ht hl a1)⟩
  · cases hf
def bTuple : List PyData → Option PyData
  | [.list xs] => some (.tuple xs)
  | [.tuple xs] => some (.tuple xs)
  | _ => none
def rTupleA (K : PySem.W.Frag) : List V → Hp → VK → Prop := fun xs H Q => ∃ p ys, xs = [.ref p] ∧ ((SqL K H p ys ∧ ∀ l, H l = none → Q (.ref l) (upd H l (.tup ys))) ∨ (SqT K H p ys ∧ Q (.ref p) H))
theorem cr_tuple {X : Cx} (hK : X.K = K) : CallR X (.type "tuple") (rTupleA K) := by
  subst hK
  exact call_tuple_of
theorem crd_tuple : CrD K (rTupleA K) bTuple := fun H O vs ds d ht h hf Q q => by
  unfold bTuple at hf
  split at hf
  · obtain ⟨v, rfl, h1⟩ := dq1 h
    obtain ⟨a, xs, rfl, s1, a1⟩ := h1.list
    cases hf
    exact ⟨a, xs, rfl, .inl ⟨s1, fun l hl => q _ _ (Ex.new hl) (new_tup ht hl a1)⟩⟩
  · obtain ⟨v, rfl, h1⟩ := dq1 h
    obtain ⟨a, xs, rfl, s1, a1, c1⟩ := h1.tuple
    cases hf
    exact ⟨a, xs, rfl, .inr ⟨s1, q _ H (Ex.refl H) (.tup c1 a1)⟩⟩
  · cases hf
/-! ### sum, any, all -/
def intsOf : List PyData → Option (List Int)
  | [] => some []
  | .int i :: ds => (intsOf ds).map (i :: ·)
  | _ :: _ => none
def boolsOf : List PyData → Option (List Bool)
  | [] => some []
  | .bool b :: ds => (boolsOf ds).map (b :: ·)
  | _ :: _ => none
theorem intsOf_some : ∀ {ds : List PyData} {ns : List Int}, intsOf ds = some ns → ds = ns.map .int
  | [], ns, h => by cases h; rfl
  | d :: ds, ns, h => by
    cases d with
    | int i =>
      cases hd : intsOf ds with
      | none =>
        rw [intsOf, hd] at h
        cases h
      | some ms =>
        rw [intsOf, hd] at h
        cases h
        rw [intsOf_some hd]
        rfl
    | _ => cases h
theorem boolsOf_some : ∀ {ds : List PyData} {ns : List Bool}, boolsOf ds = some ns → ds = ns.map .bool
  | [], ns, h => by cases h; rfl
  | d :: ds, ns, h => by
    cases d with
    | bool i =>
      cases hd : boolsOf ds with
      | none =>
        rw [boolsOf, hd] at h
        cases h
      | some ms =>
        rw [boolsOf, hd] at h
        cases h
        rw [boolsOf_some hd]
        rfl
    | _ => cases h
theorem intsOf_map (ns : List Int) : intsOf (ns.map .int) = some ns := by
  induction ns with
  | nil => rfl
  | cons n ns ih =>
    show (intsOf (ns.map .int)).map (n :: ·) = _
    rw [ih]
    rfl
theorem boolsOf_map (ns : List Bool) : boolsOf (ns.map .bool) = some ns := by
  induction ns with
  | nil => rfl
  | cons n ns ih =>
    show (boolsOf (ns.map .bool)).map (n :: ·) = _
    rw [ih]
    rfl
def bSum : List PyData → Option PyData
  | [.list xs] => (intsOf xs).map fun ns => .int ns.sum
  | _ => none
theorem cr_sumK {X : Cx} (hK : X.K = K) (hc : X.calm = true) : CallR X (.builtin "sum") (rSum K) := by
  subst hK
  exact cr_sum hc
theorem crd_sum : CrD K (rSum K) bSum := fun H O vs ds d ht h hf Q q => by
  unfold bSum at hf
  split at hf
  · rename_i xs
    obtain ⟨v, rfl, h1⟩ := dq1 h
    obtain ⟨a, ys, rfl, s1, a1⟩ := h1.list
    cases hn : intsOf xs with
    | none =>
      rw [hn] at hf
      cases hf
    | some ns =>
      rw [hn] at hf
      cases hf
      rw [intsOf_some hn] at a1
      have := dpAll_ints a1
      subst this
      exact ⟨a, ns, rfl, s1, q _ H (Ex.refl H) (.int _)⟩
  · cases hf
def bAny : List PyData → Option PyData
  | [.list xs] => (boolsOf xs).map fun ns => .bool (ns.any id)
  | _ => none
def bAll : List PyData → Option PyData
  | [.list xs] => (boolsOf xs).map fun ns => .bool (ns.all id)
  | _ => none
theorem cr_anyK {X : Cx} (hK : X.K = K) (hc : X.calm = true) : CallR X (.builtin "any") (rAny K) := by
  subst hK
  exact cr_any hc
theorem cr_allK {X : Cx} (hK : X.K = K) (hc : X.calm = true) : CallR X (.builtin "all") (rAll K) := by
  subst hK
  exact cr_all hc
theorem crd_any : CrD K (rAny K) bAny := fun H O vs ds d ht h hf Q q => by
  unfold bAny at hf
  split at hf
  · rename_i xs
    obtain ⟨v, rfl, h1⟩ := dq1 h
    obtain ⟨a, ys, rfl, s1, a1⟩ := h1.list
    cases hn : boolsOf xs with
    | none =>
      rw [hn] at hf
      cases hf
    | some ns =>
      rw [hn] at hf
      cases hf
      rw [boolsOf_some hn] at a1
      have := dpAll_bools a1
      subst this
      exact ⟨a, ns, rfl, s1, q _ H (Ex.refl H) (.bl _)⟩
  · cases hf
theorem crd_all : CrD K (rAll K) bAll := fun H O vs ds d ht h hf Q q => by
  unfold bAll at hf
  split at hf
  · rename_i xs
    obtain ⟨v, rfl, h1⟩ := dq1 h
    obtain ⟨a, ys, rfl, s1, a1⟩ := h1.list
    cases hn : boolsOf xs with
    | none =>
      rw [hn] at hf
      cases hf
    | some ns =>
      rw [hn] at hf
      cases hf
      rw [boolsOf_some hn] at a1
      have := dpAll_bools a1
      subst this
      exact ⟨a, ns, rfl, s1, q _ H (Ex.refl H) (.bl _)⟩
  · cases hf
/-! ### min, max of two, int -/
def bMin2 : List PyData → Option PyData
  | [.int i, .int j] => some (.int (if j < i then j else i))
  | _ => none
def rMin2 : List V → Hp → VK → Prop := fun xs H Q => ∃ i j, xs = [.int i, .int j] ∧ Q (.int (if j < i then j else i)) H
theorem crd_min2 : CrD K rMin2 bMin2 := fun H O vs ds d ht h hf Q q => by
  unfold bMin2 at hf
  split at hf
  · obtain ⟨v, w, rfl, h1, h2⟩ := dq2 h
    cases hf
    have e1 := h1.int
    have e2 := h2.int
    subst e1 e2
    exact ⟨_, _, rfl, q _ H (Ex.refl H) (.int _)⟩
  · cases hf
def bMax2 : List PyData → Option PyData
  | [.int i, .int j] => some (.int (if j > i then j else i))
  | _ => none
def rMax2 : List V → Hp → VK → Prop := fun vs H Q => ∃ a b : Int, vs = [.int a, .int b] ∧ Q (.int (if b > a then b else a)) H
theorem crd_max2 : CrD K rMax2 bMax2 := fun H O vs ds d ht h hf Q q => by
  unfold bMax2 at hf
  split at hf
  · obtain ⟨v, w, rfl, h1, h2⟩ := dq2 h
    cases hf
    have e1 := h1.int
    have e2 := h2.int
    subst e1 e2
    exact ⟨_, _, rfl, q _ H (Ex.refl H) (.int _)⟩
  · cases hf
def bInt : List PyData → Option PyData
  | [.int i] => some (.int i)
  | [.bool b] => some (.int (if b then 1 else 0))
  | _ => none
def rIntA : List V → Hp → VK → Prop := fun xs H Q => (∃ i, xs = [.int i] ∧ Q (.int i) H) ∨ ∃ k, xs = [.bl k] ∧ Q (.int (if k then 1 else 0)) H
theorem crd_int : CrD K rIntA bInt := fun H O vs ds d ht h hf Q q => by
  unfold bInt at hf
  split at hf
  · obtain ⟨v, rfl, h1⟩ := dq1 h
    cases hf
    have e1 := h1.int
    subst e1
    exact .inl ⟨_, rfl, q _ H (Ex.refl H) (.int _)⟩
  · obtain ⟨v, rfl, h1⟩ := dq1 h
    cases hf
    have e1 := h1.bool
    subst e1
    exact .inr ⟨_, rfl, q _ H (Ex.refl H) (.int _)⟩
  · cases hf
/-! ### repr -/
def bRepr : List PyData → Option PyData
  | [.bool b] => some (.str (if b then "True" else "False"))
  | [.none] => some (.str "None")
  | _ => none
def rReprA : List V → Hp → VK → Prop := fun xs H Q => (∃ b, xs = [.bl b] ∧ Q (.str (if b then "True" else "False")) H) ∨ (xs = [.non] ∧ Q (.str "None") H)
theorem cr_repr {X : Cx} : CallR X (.builtin "repr") rReprA := fun _ _ _ H vs us _ inv rel wish => by
  rcases wish with ⟨b, rfl, q⟩ | ⟨rfl, q⟩
  · obtain ⟨only, rfl, is⟩ := vals1 rel
    cases is
    exact PySem.P.repr_of_bool ⟨.str _, H, inv.tok _, ⟨_, rfl⟩, q⟩
  · obtain ⟨only, rfl, is⟩ := vals1 rel
    cases is
    exact PySem.P.repr_of_none ⟨.str _, H, inv.tok _, ⟨_, rfl⟩, q⟩
theorem crd_repr : CrD K rReprA bRepr := fun H O vs ds d ht h hf Q q => by
  unfold bRepr at hf
  split at hf
  · obtain ⟨v, rfl, h1⟩ := dq1 h
    cases hf
    have e1 := h1.bool
    subst e1
    exact .inl ⟨_, rfl, q _ H (Ex.refl H) (.str _)⟩
  · obtain ⟨v, rfl, h1⟩ := dq1 h
    cases hf
    have e1 := h1.none
    subst e1
    exact .inr ⟨rfl, q _ H (Ex.refl H) (.str _)⟩
  · cases hf
/-! ### sorted -/
open PySem.W in
def rSortK (K : PySem.W.Frag) : List V → Hp → VK → Prop := fun vs H Q => ∃ (a : Addr) (bs : List (V × PyData)), vs = [.ref a] ∧ (SqL K H a (bs.map Prod.fst) ∨ SqT K H a (bs.map Prod.fst)) ∧ (∀ b ∈ bs, Dp K H b.1 b.2) ∧ AllAlike (bs.map Prod.snd) ∧ Sortable (bs.map Prod.snd) ∧ (∀ b ∈ bs, b.2.depth ≤ 64) ∧
  ∀ p, H p = none → Q (.ref p) (upd H p (.lst ((bs.mergeSort (dataLe false Prod.snd)).map Prod.fst)))
theorem each_vals : ∀ {bs : List (V × PyData)} {its : List Value}, Vals (bs.map Prod.fst) its → PySem.W.EachIs (fun u (b : V × PyData) => RelV b.1 u) its bs
  | [], _, h => by
    cases h
    exact .nil
  | b :: bs, _, h => by
    have h' : Vals (b.1 :: bs.map Prod.fst) _ := h
    cases h' with
    | cons h1 h2 => exact .cons h1 (each_vals h2)
theorem vals_each : ∀ {bs : List (V × PyData)} {its : List Value}, PySem.W.EachIs (fun u (b : V × PyData) => RelV b.1 u) its bs → Vals (bs.map Prod.fst) its
  | _, _, .nil => .nil
  | _, _, .cons h1 h2 => .cons h1 (vals_each h2)
theorem each_and {α β : Type} {R S : α → β → Prop} : ∀ {as : List α} {bs : List β}, PySem.W.EachIs R as bs → (∀ a b, b ∈ bs → R a b → S a b) → PySem.W.EachIs S as bs
  | _, _, .nil, _ => .nil
  | _, _, .cons h1 h2, f => .cons (f _ _ List.mem_cons_self h1) (each_and h2 fun a b hb => f a b (List.mem_cons_of_mem _ hb))
/-! sorted of a tuple -/
section
open PySem.W
variable {P : Program} {w : World} {A : Around} {E : Value → Shared → Prop} {st : Shared}
theorem tup_items {q : Addr} {us : List Value} {Q : List Value → Shared → Prop} (is : IsTup st.heap q us.toArray) (fits : us.length ≤ sizeLine)
    (goal : Q us { st with heap := (st.heap.push (seqObj "list" #[] 0)).update st.heap.objs.size (Obj.mapSeq (· ++ us.toArray)) }) :
    wpAny (model P w) A (collect (.ref q)) Q E st := by
  obtain ⟨ob, at_, kind_, n, data_⟩ := id is
  have at2 : (st.heap.push (seqObj "list" #[] 0)).get? q = some ob := Heap.get?_push_of_some _ at_
  have new_ : (st.heap.push (seqObj "list" #[] 0)).get? st.heap.objs.size = some (seqObj "list" #[] 0) := Heap.get?_push_size _ rfl
  have both : (#[] : Array Value) ++ us.toArray = us.toArray := by simp
  have small : ((#[] : Array Value) ++ us.toArray).size ≤ sizeLine + 1 := by
    rw [both, List.size_toArray]
    omega
  unfold collect
  apply wpAny_bind
  apply wpAny_runValue
  apply codeAny_builtin entry_proto_collect'
  show wpAny _ _ (do
    again (.builtin "list.__iadd__" ⟨[← newList [], .ref q], []⟩)) _ _ st
  apply wpAny_bind
  refine wpAny_newList ?_
  apply wpAny_pure
  refine ⟨Code.quiet_builtin _ (by decide +kernel), codeAny_builtin entry_list_iadd' ?_⟩
  show wpAny _ _ (Builtin.List.listExtendWith (.ref st.heap.objs.size) (.ref q) (.ref st.heap.objs.size)) _ _ { st with heap := st.heap.push (seqObj "list" #[] 0) }
  (unfold Builtin.List.listExtendWith)
  apply wpAny_bind
  refine wpAny_typeOf (T := "tuple") ⟨ob, at2, kind_⟩ ?_
  have yes : (Value.type "tuple" == Value.type "tuple") = true := rfl
  rw [if_pos (by
    rw [yes]
    simp)]
  apply wpAny_bind
  refine listItems_at at2 data_ ?_
  apply wpAny_bind
  refine listItems_at (xs := #[]) (n := 0) new_ rfl ?_
  rw [if_neg (by simp)]
  apply wpAny_bind
  refine listUpdate_at (xs := #[]) (n := 0) new_ rfl ?_ (Nat.zero_le _) small
  apply wpAny_pure
  show wpAny (model P w) A (do
    let ob ← load st.heap.objs.size
    match ob.data with
      | .seq xs _ => pure xs.toList
      | _ => unsupported "internal:collect") Q E _
  apply wpAny_bind
  refine wpAny_load (get?_update_seq new_ _) ?_
  show wpAny _ _ (pure ((#[] : Array Value) ++ us.toArray).toList) Q E _
  rw [both]
  exact wpAny_pure goal
theorem tup_sorted {β : Type} {R : Value → β → Prop} {enc : β → PyData} {q : Addr} {us : List Value} {bs : List β} {Q : Value → Shared → Prop} (is : IsTup st.heap q us.toArray) (e : EachIs R us bs) (er : EachIs (fun v b => ∃ as, Reads st.heap v (enc b) as) us bs)
    (same : AllAlike (bs.map enc)) (ord : Sortable (bs.map enc)) (few : bs.length ≤ sizeLine) (flat : ∀ b, b ∈ bs → A.units + 2 + (enc b).depth < cLine)
    (goal : ∀ out, EachIs R out (bs.mergeSort (dataLe false enc)) → Q (.ref (st.heap.objs.size + 1)) { st with heap := sortedAll st.heap us (List.toArray out) }) :
    wpAny (model P w) A (call (.builtin "sorted") [.ref q]) Q E st := by
  have few2 : us.length ≤ sizeLine := by
    rw [e.length]
    exact few
  have late : EachIs (fun v b => ∃ as, Reads (sortingHeap (copyHeap st.heap us) (st.heap.objs.size + 1) us) v (enc b) as) us bs := er.mono fun _ _ z => by
    obtain ⟨as, r⟩ := z
    exact ⟨as, PyProof.Rows.Reads.keeps (fun _ _ => sorting_copy_old) r⟩
  have sorts := SortsAt.data (prog := P) (w := w) (A := A.in1.in1) (s := { st with heap := sortingHeap (copyHeap st.heap us) (st.heap.objs.size + 1) us }) (each_map (R := fun v d => ∃ as, Reads (sortingHeap (copyHeap st.heap us) (st.heap.objs.size + 1) us) v d as) enc late) same ord (bound_map flat)
  have grown : ((st.heap.push (seqObj "list" #[] 0)).update st.heap.objs.size (Obj.mapSeq (· ++ us.toArray))).objs.size = st.heap.objs.size + 1 := by
    rw [Heap.size_update]
    exact size_push' _ _
  refine Calls.call_function_entry kind_sorted plain_sorted entry_sorted (args_sorted1 (.ref q)) ?_
  unfold Builtin.«sorted»
  apply wpAny_bind (m := checkCount "sorted" 1 1 _)
  apply wpAny_pure
  apply wpAny_bind
  refine tup_items is few2 ?_
  apply wpAny_bind
  refine wpAny_newList ?_ few2
  show wpAny _ _ _ _ _ { st with heap := copyHeap st.heap us }
  rw [grown]
  apply wpAny_bind
  apply wpAny_holding
  refine wpAny_call_entry slot_list_sort ⟨_, copyHeap_at st.heap us, rfl⟩ entry_list_sort ?_ (args_list_sort _)
  refine list_sort_vals (s := { st with heap := copyHeap st.heap us }) (copyHeap_at st.heap us) sorts few2 ⟨_, rfl, ?_⟩
  apply wpAny_pure
  exact ⟨_, rfl, goal _ (sortVals_data false e late same)⟩
end
theorem cr_sortK {X : Cx} (hK : X.K = K) (hu : X.A.units + 70 < cLine) : CallR X (.builtin "sorted") (rSortK K) := by
  subst hK
  refine fun _ st _ H vs us _ inv rel wish => ?_
  obtain ⟨a, bs, rfl, there, reads, same, ord, flat, next⟩ := wish
  obtain ⟨only, rfl, is⟩ := vals1 rel
  cases is
  have fin : ∀ (its out : List Value), bs.length ≤ sizeLine → PySem.W.EachIs (fun u (b : V × PyData) => RelV b.1 u) out (bs.mergeSort (PySem.W.dataLe false Prod.snd)) → ∃ x H', Inv X _ _ H' { st with heap := sortedAll st.heap its out.toArray } ∧ RelV x (.ref (st.heap.objs.size + 1)) ∧ _ := fun its out few is => by
    obtain ⟨n, laid⟩ := PyProof.Rows.sortedAll_at st.heap its out.toArray
    have okNew : (((bs.mergeSort (PySem.W.dataLe false Prod.snd)).map Prod.fst).length ≤ sizeLine) := by
      simp only [List.length_map, List.length_mergeSort]
      exact few
    have inv2 := inv.laid (o := .lst ((bs.mergeSort (PySem.W.dataLe false Prod.snd)).map Prod.fst)) (t' := st.toks) (fun _ _ q => PyProof.Rows.sortedAll_old (vs := its) (out := out.toArray) q) (Nat.le_succ _) ⟨okNew, out, n, vals_each is, laid⟩
    exact ⟨.ref (st.heap.objs.size + 1), _, inv2, rfl, next _ (inv.hok.fresh (Nat.le_succ _))⟩
  rcases there with there | there
  · obtain ⟨its, rv, plain, size⟩ := inv.list there
    have each := each_vals rv
    have few : bs.length ≤ sizeLine := by simpa only [List.length_map] using size
    have readsEach := each_and (S := fun u (b : V × PyData) => ∃ as, Reads st.heap u b.2 as) each fun u b hm hr => Dp.reads inv b.2 b.1 u (reads b hm) hr
    refine PySem.W.sorted_data (R := fun u (b : V × PyData) => RelV b.1 u) (enc := Prod.snd) plain.isList each readsEach same ord few (fun b hm => by
      have := flat b hm
      omega) fun out _ is => fin its out few is
  · obtain ⟨its, rv, plain, size⟩ := inv.tuple there
    have each := each_vals rv
    have few : bs.length ≤ sizeLine := by simpa only [List.length_map] using size
    have readsEach := each_and (S := fun u (b : V × PyData) => ∃ as, Reads st.heap u b.2 as) each fun u b hm hr => Dp.reads inv b.2 b.1 u (reads b hm) hr
    refine tup_sorted (R := fun u (b : V × PyData) => RelV b.1 u) (enc := Prod.snd) plain each readsEach same ord few (fun b hm => by
      have := flat b hm
      omega) fun out is => fin its out few is
def depthOk (ds : List PyData) : Bool := ds.all fun d => decide (d.depth ≤ 64)
instance (ds : List PyData) : Decidable (PySem.W.AllAlike ds) := by unfold PySem.W.AllAlike; infer_instance
def srtB (ds : List PyData) : Bool := (ds.all fun d => match d with | .tuple (_ :: _) => true | _ => false) || (ds.all fun d => match d with | .tuple _ => false | .none => false | _ => true)
theorem srtB_ok {ds : List PyData} (h : srtB ds = true) : PySem.W.Sortable ds := by
  unfold srtB at h
  rw [Bool.or_eq_true] at h
  rcases h with h | h
  · refine .inl fun d hd => ?_
    have one := List.all_eq_true.mp h d hd
    split at one
    · exact ⟨_, _, rfl⟩
    · cases one
  · refine .inr fun d hd => ?_
    have one := List.all_eq_true.mp h d hd
    split at one
    · cases one
    · cases one
    · rename_i h1 h2
      exact ⟨fun z => h2 z, fun xs z => h1 xs z⟩
def sortL (xs : List PyData) : Option PyData := if PySem.W.AllAlike xs ∧ srtB xs = true ∧ depthOk xs = true then some (.list (xs.mergeSort (PySem.W.dataLe false id))) else none
def bSorted : List PyData → Option PyData
  | [.list xs] => sortL xs
  | [.tuple xs] => sortL xs
  | _ => none
theorem zip_fst {H : Hp} {xs : List V} {ds : List PyData} (h : DpAll K H xs ds) : (xs.zip ds).map Prod.fst = xs ∧ (xs.zip ds).map Prod.snd = ds ∧ ∀ b ∈ xs.zip ds, Dp K H b.1 b.2 := by
  induction xs generalizing ds with
  | nil =>
    cases h
    exact ⟨rfl, rfl, fun _ z => nomatch z⟩
  | cons x xs ih =>
    cases h with
    | cons h1 h2 =>
      obtain ⟨a, b, c⟩ := ih h2
      refine ⟨by rw [List.zip_cons_cons, List.map_cons, a], by rw [List.zip_cons_cons, List.map_cons, b], fun z hz => ?_⟩
      rw [List.zip_cons_cons] at hz
      rcases List.mem_cons.mp hz with q | q
      · subst q
        exact h1
      · exact c z q
theorem dpAll_of_zip {H : Hp} : ∀ (bs : List (V × PyData)), (∀ b ∈ bs, Dp K H b.1 b.2) → DpAll K H (bs.map Prod.fst) (bs.map Prod.snd)
  | [], _ => .nil
  | b :: bs, h => .cons (h b List.mem_cons_self) (dpAll_of_zip bs fun c hc => h c (List.mem_cons_of_mem _ hc))
theorem crd_sorted : CrD K (rSortK K) bSorted := fun H O vs ds d ht h hf Q q => by
  have go : ∀ (a : Addr) (ys : List V) (xs : List PyData), (SqL K H a ys ∨ SqT K H a ys) → DpAll K (cut H O) ys xs → sortL xs = some d → rSortK K [.ref a] H Q := fun a ys xs s1 a1 hf => by
    obtain ⟨⟨c1, c2, c3⟩, e⟩ := ite_some hf
    subst e
    obtain ⟨z1, z2, z3⟩ := zip_fst a1
    refine ⟨a, ys.zip xs, rfl, by rw [z1]; exact s1, fun b hb => dp_ex cut_ex (z3 b hb), by rw [z2]; exact c1, by rw [z2]; exact srtB_ok c2, fun b hb => ?_, fun p hp => q _ _ (Ex.new hp) (new_list ht hp ?_)⟩
    · have : b.2 ∈ xs := by
        rw [← z2]
        exact List.mem_map.mpr ⟨b, hb, rfl⟩
      exact of_decide_eq_true (List.all_eq_true.mp c3 _ this)
    · have e2 : xs.mergeSort (PySem.W.dataLe false id) = ((ys.zip xs).mergeSort (PySem.W.dataLe false Prod.snd)).map Prod.snd := by
        have := PySem.W.sort_maps (r := PySem.W.dataLe false Prod.snd) (s := PySem.W.dataLe false id) (Prod.snd : V × PyData → PyData) (l := ys.zip xs) (fun _ _ _ _ => rfl)
        rw [this, z2]
      rw [e2]
      exact dpAll_of_zip _ fun b hb => z3 b (List.mem_mergeSort.mp hb)
  unfold bSorted at hf
  split at hf
  · obtain ⟨v, rfl, h1⟩ := dq1 h
    obtain ⟨a, ys, rfl, s1, a1⟩ := h1.list
    exact go a ys _ (.inl s1) a1 hf
  · obtain ⟨v, rfl, h1⟩ := dq1 h
    obtain ⟨a, ys, rfl, s1, a1, _⟩ := h1.tuple
    exact go a ys _ (.inr s1) a1 hf
  · cases hf
end

end Rv
namespace Rv
open PySem L2 PySem.Spec PyProof.Rows
/-! The data layer, part A: in, isinstance, methods, ranges as lists, enumerate. -/

section
variable {K : PySem.W.Frag}
/-! ### in -/
def rInT (K : PySem.W.Frag) (neg : Bool) : R2 := fun x y H Q => ∃ d ds, Dp K H x d ∧ (Dp K H y (.list ds) ∨ Dp K H y (.tuple ds)) ∧ SeqAt.shaped d = true ∧ SeqAt.shaped (.list ds) = true ∧ Q (.bl (xor neg (ds.any fun z => PyData.eqv z d))) H
theorem op_inT {X : Cx} (hK : X.K = K) (hu : X.A.units + 65 < cLine) : OpR X (compareOp .In) (rInT K false) := by
  subst hK
  refine fun _ st _ H x y v u _ inv rx ry ⟨d1, items, p1, p2, s1, s2, wish⟩ => ?_
  obtain ⟨as, reads1⟩ := Dp.reads inv d1 x v p1 rx
  have lay1 := SeqAt.canLay_of_shaped s1
  have lay2 : PyData.canLayAll0 items = true := SeqAt.canLay_of_shaped s2
  have done : EP X _ _ _ (Value.bool (items.any fun z => PyData.eqv z d1)) st := ⟨.bl _, H, inv, rfl, (Bool.false_xor _) ▸ wish⟩
  rcases p2 with p2 | p2
  · obtain ⟨bs, reads2⟩ := Dp.reads inv _ y u p2 ry
    exact SeqAt.in_list_reads reads2 reads1 lay2 lay1 (room_in_shaped s1 hu) done
  · obtain ⟨bs, reads2⟩ := Dp.reads inv _ y u p2 ry
    exact SeqAt.in_tuple_reads reads2 reads1 lay2 lay1 (room_in_shaped s1 hu) done
theorem op_notInT {X : Cx} (hK : X.K = K) (hu : X.A.units + 65 < cLine) : OpR X (compareOp .NotIn) (rInT K true) := by
  subst hK
  refine fun _ st _ H x y v u _ inv rx ry ⟨d1, items, p1, p2, s1, s2, wish⟩ => ?_
  obtain ⟨as, reads1⟩ := Dp.reads inv d1 x v p1 rx
  have lay1 := SeqAt.canLay_of_shaped s1
  have lay2 : PyData.canLayAll0 items = true := SeqAt.canLay_of_shaped s2
  have done : EP X _ _ _ (Value.bool (!items.any fun z => PyData.eqv z d1)) st := ⟨.bl _, H, inv, rfl, (Bool.true_xor _) ▸ wish⟩
  rcases p2 with p2 | p2
  · obtain ⟨bs, reads2⟩ := Dp.reads inv _ y u p2 ry
    exact SeqAt.notIn_list_reads reads2 reads1 lay2 lay1 (room_in_shaped s1 hu) done
  · obtain ⟨bs, reads2⟩ := Dp.reads inv _ y u p2 ry
    exact SeqAt.notIn_tuple_reads reads2 reads1 lay2 lay1 (room_in_shaped s1 hu) done
def rSgn (neg : Bool) : R2 := fun x y H Q => ∃ (c : Nat) (z : Str), x = .str ⟨#[c]⟩ ∧ y = .str z ∧ Q (.bl (xor neg (decide (c ∈ z.cps.toList)))) H
theorem op_sgn {X : Cx} : OpR X (compareOp .In) (rSgn false) := fun pins s σ H x y v u Q I rx ry h => by
  obtain ⟨c, z, e1, e2, q⟩ := h
  rw [Bool.false_xor] at q
  exact op_in_sign pins s σ H x y v u Q I rx ry ⟨c, z, e1, e2, q⟩
theorem op_notSgn {X : Cx} : OpR X (compareOp .NotIn) (rSgn true) := fun pins s σ H x y v u Q I rx ry h => by
  obtain ⟨c, z, e1, e2, q⟩ := h
  rw [Bool.true_xor] at q
  exact op_notIn_sign pins s σ H x y v u Q I rx ry ⟨c, z, e1, e2, q⟩
def rIns (K : PySem.W.Frag) (neg : Bool) : R2 := fun x y H Q => rInT K neg x y H Q ∨ rSgn neg x y H Q
theorem op_ins {X : Cx} (hK : X.K = K) (hu : X.A.units + 65 < cLine) : OpR X (compareOp .In) (rIns K false) := OpR.or (op_inT hK hu) op_sgn
theorem op_notIns {X : Cx} (hK : X.K = K) (hu : X.A.units + 65 < cLine) : OpR X (compareOp .NotIn) (rIns K true) := OpR.or (op_notInT hK hu) op_notSgn
def dIn (neg : Bool) (x y : PyData) : Option PyData :=
  match y with
  | .list ds => if SeqAt.shaped x = true ∧ SeqAt.shaped (.list ds) = true then some (.bool (xor neg (ds.any fun z => PyData.eqv z x))) else none
  | .tuple ds => if SeqAt.shaped x = true ∧ SeqAt.shaped (.list ds) = true then some (.bool (xor neg (ds.any fun z => PyData.eqv z x))) else none
  | .str z => match x with
    | .str w => match w.cps.toList with
      | [c] => some (.bool (xor neg (decide (c ∈ z.cps.toList))))
      | _ => none
    | _ => none
  | _ => none
theorem str_one {w : Str} {c : Nat} (h : w.cps.toList = [c]) : w = ⟨#[c]⟩ := by
  cases w with
  | mk cps =>
    have : cps = #[c] := by
      apply Array.toList_inj.mp
      exact h
    rw [this]
theorem opd_in (neg : Bool) : OpD K (rIns K neg) (dIn neg) := fun H O x y d1 d2 d ht h1 h2 hf Q q => by
  unfold dIn at hf
  split at hf
  · obtain ⟨hc, e⟩ := ite_some hf
    subst e
    exact .inl ⟨_, _, h1.dp, .inl h2.dp, hc.1, hc.2, q _ H (Ex.refl H) (.bl _)⟩
  · obtain ⟨hc, e⟩ := ite_some hf
    subst e
    exact .inl ⟨_, _, h1.dp, .inr h2.dp, hc.1, hc.2, q _ H (Ex.refl H) (.bl _)⟩
  · split at hf
    · split at hf
      · rename_i c hw
        cases hf
        have e1 := h1.str
        have e2 := h2.str
        rw [str_one hw] at e1
        exact .inr ⟨c, _, e1, e2, q _ H (Ex.refl H) (.bl _)⟩
      · cases hf
    · cases hf
  · cases hf
/-! ### isinstance -/
def tyN : PyData → String
  | .none => "NoneType"
  | .bool _ => "bool"
  | .int _ => "int"
  | .str _ => "str"
  | .list _ => "list"
  | .tuple _ => "tuple"
  | .dict _ => "dict"
theorem tyx {H : Hp} {v : V} {d : PyData} (h : Dp K H v d) : TyX K H v (.type (tyN d)) := by
  cases h with
  | non => exact .base .non
  | bl b => exact .base (.bl b)
  | int i => exact .base (.int i)
  | str x => exact .base (.str x)
  | lst hs ha =>
    rcases hs with (h | ⟨o, h⟩) | ⟨o, its, n, h1, h2, _⟩
    · exact .base (.lst h)
    · exact .base (.frz h)
    · exact .kList h1 h2
  | tup hs ha =>
    rcases hs with (h | ⟨o, h⟩) | ⟨o, its, n, h1, h2, _⟩
    · exact .base (.tup h)
    · exact .fTuple h
    · exact .kTuple h1 h2
def mIsi (f : PyData → Bool) (m : En → Option PyData) : En → Option PyData := fun env => (m env).bind fun d => some (.bool (f d))
section
variable {ι : Type} {X : ι → Cx} {N : List Str} {k : Nat} {M : List Nat} {a b c e tg : Expr} {ta tb tc te : TE} {ma mb mc me : En → Option PyData} {pos : Pos}
def isiD (T : String) (d : PyData) : Bool := (kitB (tyN d) T).getD false
/-- isinstance(x, T) -/
theorem d_isi (F : Fam X K N k) (T : String) {x : Str} {p p2 : Pos} (h : MQ X K M e te me) (hm : ∀ i, (X i).mg "isinstance" = none) (hmx : ∀ i, (X i).mg x = none) (hT : ∀ d, (kitB (tyN d) T).isSome = true) (hb : bootBuiltins x = some (.type T)) (hg : ∀ i, Gl (X i) "isinstance" := by exact fun _ => rfl) (hgx : ∀ i, Gl (X i) x := by exact fun _ => rfl) (hn : x ≠ "__name__" := by decide) (hdb : (x == ("__debug__" : Str)) = false := by decide)
    (he : ∀ i, starEach (e :: [.Name x p2]) (X i).env = (false, eval e (X i).env) :: starEach [.Name x p2] (X i).env := by exact fun _ => rfl) (he2 : ∀ i, starEach [.Name x p2] (X i).env = (false, eval (.Name x p2) (X i).env) :: starEach [] (X i).env := by exact fun _ => rfl) (hpl : ∀ i, (backTo pos (starEach [.Name x p2] (X i).env)).any (·.1) = false := by exact fun _ => rfl) :
    MD X K M (.Call (.Name "isinstance" p) [e, .Name x p2] [] pos) (tCB (rIsi K) (tCons te (tCons (tC (.ty T)) tNil))) (mIsi (isiD T) me) := ⟨fun i => by
  have := pe_callB (pos := pos) (p := p) (r := rIsi (X i).K) call_isi (hg i) (hm i) (by decide +kernel) (pa_cons (h.pe i) (pa_cons (pe_bltn (v := .ty T) (hgx i) (hmx i) hb rfl hn hdb) pa_nil (he2 i)) (he i)) (by decide) (by decide) (he i) (hpl i)
  rw [F.hK i] at this
  exact this, fun H0 O0 O σ H env d s hmm Q q => by
  obtain ⟨d1, h1, h2⟩ := bind1 hmm
  cases h2
  refine h.sd H0 O0 O σ H env d1 s h1 _ fun v H1 e1 hv => ⟨v, .ty T, .type (tyN d1), .type T, isiD T d1, rfl, .ty T, tyx hv.dp, kit_ty ?_, q _ H1 e1 (.bl _)⟩
  obtain ⟨r, hr⟩ := Option.isSome_iff_exists.mp (hT d1)
  unfold isiD
  rw [hr]
  rfl⟩
theorem isiT_int : ∀ d, (kitB (tyN d) "int").isSome = true
  | .none => (show (kitB "NoneType" "int").isSome = true by decide +kernel)
  | .bool _ => (show (kitB "bool" "int").isSome = true by decide +kernel)
  | .int _ => (show (kitB "int" "int").isSome = true by decide +kernel)
  | .str _ => (show (kitB "str" "int").isSome = true by decide +kernel)
  | .list _ => (show (kitB "list" "int").isSome = true by decide +kernel)
  | .tuple _ => (show (kitB "tuple" "int").isSome = true by decide +kernel)
  | .dict _ => (show (kitB "dict" "int").isSome = true by decide +kernel)
theorem isiT_bool : ∀ d, (kitB (tyN d) "bool").isSome = true
  | .none => (show (kitB "NoneType" "bool").isSome = true by decide +kernel)
  | .bool _ => (show (kitB "bool" "bool").isSome = true by decide +kernel)
  | .int _ => (show (kitB "int" "bool").isSome = true by decide +kernel)
  | .str _ => (show (kitB "str" "bool").isSome = true by decide +kernel)
  | .list _ => (show (kitB "list" "bool").isSome = true by decide +kernel)
  | .tuple _ => (show (kitB "tuple" "bool").isSome = true by decide +kernel)
  | .dict _ => (show (kitB "dict" "bool").isSome = true by decide +kernel)
theorem isiT_str : ∀ d, (kitB (tyN d) "str").isSome = true
  | .none => (show (kitB "NoneType" "str").isSome = true by decide +kernel)
  | .bool _ => (show (kitB "bool" "str").isSome = true by decide +kernel)
  | .int _ => (show (kitB "int" "str").isSome = true by decide +kernel)
  | .str _ => (show (kitB "str" "str").isSome = true by decide +kernel)
  | .list _ => (show (kitB "list" "str").isSome = true by decide +kernel)
  | .tuple _ => (show (kitB "tuple" "str").isSome = true by decide +kernel)
  | .dict _ => (show (kitB "dict" "str").isSome = true by decide +kernel)
theorem isiT_tuple : ∀ d, (kitB (tyN d) "tuple").isSome = true
  | .none => (show (kitB "NoneType" "tuple").isSome = true by decide +kernel)
  | .bool _ => (show (kitB "bool" "tuple").isSome = true by decide +kernel)
  | .int _ => (show (kitB "int" "tuple").isSome = true by decide +kernel)
  | .str _ => (show (kitB "str" "tuple").isSome = true by decide +kernel)
  | .list _ => (show (kitB "list" "tuple").isSome = true by decide +kernel)
  | .tuple _ => (show (kitB "tuple" "tuple").isSome = true by decide +kernel)
  | .dict _ => (show (kitB "dict" "tuple").isSome = true by decide +kernel)
theorem isiT_list : ∀ d, (kitB (tyN d) "list").isSome = true
  | .none => (show (kitB "NoneType" "list").isSome = true by decide +kernel)
  | .bool _ => (show (kitB "bool" "list").isSome = true by decide +kernel)
  | .int _ => (show (kitB "int" "list").isSome = true by decide +kernel)
  | .str _ => (show (kitB "str" "list").isSome = true by decide +kernel)
  | .list _ => (show (kitB "list" "list").isSome = true by decide +kernel)
  | .tuple _ => (show (kitB "tuple" "list").isSome = true by decide +kernel)
  | .dict _ => (show (kitB "dict" "list").isSome = true by decide +kernel)
def isInt : PyData → Bool
  | .int _ => true
  | .bool _ => true
  | _ => false
def isBool : PyData → Bool
  | .bool _ => true
  | _ => false
def isStr : PyData → Bool
  | .str _ => true
  | _ => false
def isTuple : PyData → Bool
  | .tuple _ => true
  | _ => false
def isList : PyData → Bool
  | .list _ => true
  | _ => false
theorem isi_int : ∀ d : PyData, isiD "int" d = isInt d
  | .none => (show (kitB "NoneType" "int").getD false = false by decide +kernel)
  | .bool _ => (show (kitB "bool" "int").getD false = true by decide +kernel)
  | .int _ => (show (kitB "int" "int").getD false = true by decide +kernel)
  | .str _ => (show (kitB "str" "int").getD false = false by decide +kernel)
  | .list _ => (show (kitB "list" "int").getD false = false by decide +kernel)
  | .tuple _ => (show (kitB "tuple" "int").getD false = false by decide +kernel)
  | .dict _ => (show (kitB "dict" "int").getD false = false by decide +kernel)
theorem isi_bool : ∀ d : PyData, isiD "bool" d = isBool d
  | .none => (show (kitB "NoneType" "bool").getD false = false by decide +kernel)
  | .bool _ => (show (kitB "bool" "bool").getD false = true by decide +kernel)
  | .int _ => (show (kitB "int" "bool").getD false = false by decide +kernel)
  | .str _ => (show (kitB "str" "bool").getD false = false by decide +kernel)
  | .list _ => (show (kitB "list" "bool").getD false = false by decide +kernel)
  | .tuple _ => (show (kitB "tuple" "bool").getD false = false by decide +kernel)
  | .dict _ => (show (kitB "dict" "bool").getD false = false by decide +kernel)
theorem isi_str : ∀ d : PyData, isiD "str" d = isStr d
  | .none => (show (kitB "NoneType" "str").getD false = false by decide +kernel)
  | .bool _ => (show (kitB "bool" "str").getD false = false by decide +kernel)
  | .int _ => (show (kitB "int" "str").getD false = false by decide +kernel)
  | .str _ => (show (kitB "str" "str").getD false = true by decide +kernel)
  | .list _ => (show (kitB "list" "str").getD false = false by decide +kernel)
  | .tuple _ => (show (kitB "tuple" "str").getD false = false by decide +kernel)
  | .dict _ => (show (kitB "dict" "str").getD false = false by decide +kernel)
theorem isi_tuple : ∀ d : PyData, isiD "tuple" d = isTuple d
  | .none => (show (kitB "NoneType" "tuple").getD false = false by decide +kernel)
  | .bool _ => (show (kitB "bool" "tuple").getD false = false by decide +kernel)
  | .int _ => (show (kitB "int" "tuple").getD false = false by decide +kernel)
  | .str _ => (show (kitB "str" "tuple").getD false = false by decide +kernel)
  | .list _ => (show (kitB "list" "tuple").getD false = false by decide +kernel)
  | .tuple _ => (show (kitB "tuple" "tuple").getD false = true by decide +kernel)
  | .dict _ => (show (kitB "dict" "tuple").getD false = false by decide +kernel)
theorem isi_list : ∀ d : PyData, isiD "list" d = isList d
  | .none => (show (kitB "NoneType" "list").getD false = false by decide +kernel)
  | .bool _ => (show (kitB "bool" "list").getD false = false by decide +kernel)
  | .int _ => (show (kitB "int" "list").getD false = false by decide +kernel)
  | .str _ => (show (kitB "str" "list").getD false = false by decide +kernel)
  | .list _ => (show (kitB "list" "list").getD false = true by decide +kernel)
  | .tuple _ => (show (kitB "tuple" "list").getD false = false by decide +kernel)
  | .dict _ => (show (kitB "dict" "list").getD false = false by decide +kernel)
/-! ### list(range(a, b)) -/
def mLRg (ma mb : En → Option PyData) : En → Option PyData := fun env => (ma env).bind fun a => (mb env).bind fun b => match a, b with
  | .int i, .int j => if -(2 ^ 62) ≤ i ∧ i < 2 ^ 62 ∧ -(2 ^ 62) ≤ j ∧ j < 2 ^ 62 ∧ (j - i).toNat ≤ 2 ^ 24 then some (.list (rangeD i (j - i).toNat)) else none
  | _, _ => none
theorem dpAll_range {H : Hp} (a b : Int) : DpAll K H (rgV a b) (rangeD a (b - a).toNat) := by
  unfold rgV rangeD
  generalize List.range (b - a).toNat = l
  induction l with
  | nil => exact .nil
  | cons i l ih => exact .cons (.int _) ih
theorem d_listRg2 (F : Fam X K N k) {p p1 p2 : Pos} (ha : MD X K M a ta ma) (hb : MD X K M b tb mb) (hm : ∀ i, (X i).mg "list" = none) (hmr : ∀ i, (X i).mg "range" = none) (hg : ∀ i, Gl (X i) "list" := by exact fun _ => rfl) (hgr : ∀ i, Gl (X i) "range" := by exact fun _ => rfl)
    (na : ∀ i, starEach [a, b] (X i).env = (false, eval a (X i).env) :: starEach [b] (X i).env := by exact fun _ => rfl) (nb : ∀ i, starEach [b] (X i).env = (false, eval b (X i).env) :: starEach [] (X i).env := by exact fun _ => rfl) (hp : ∀ i, (backTo p2 (starEach [b] (X i).env)).any (·.1) = false := by exact fun _ => rfl)
    (nc : ∀ i, starEach [.Call (.Name "range" p1) [a, b] [] p2] (X i).env = (false, eval (.Call (.Name "range" p1) [a, b] [] p2) (X i).env) :: starEach [] (X i).env := by exact fun _ => rfl) :
    MD X K M (.Call (.Name "list" p) [.Call (.Name "range" p1) [a, b] [] p2] [] pos) (tLstRg (tRg2 ta tb)) (mLRg ma mb) := ⟨fun i => pe_listRg (F.calm i) (hg i) (hm i) (prg_2 (hgr i) (hmr i) (ha.pe i) (hb.pe i) (na i) (nb i) (hp i)) (nc i), fun H0 O0 O σ H env d s hmm Q q => by
  obtain ⟨x, y, h1, h2, h3⟩ := bind2 hmm
  refine ha.sd H0 O0 O σ H env x s h1 _ fun v H1 e1 hv => ?_
  refine hb.sd H0 O0 O σ H1 env y (s.ex e1) h2 _ fun w H2 e2 hw => ?_
  cases hv with
  | int i =>
    cases hw with
    | int j =>
      obtain ⟨hz, e⟩ := ite_some h3
      subst e
      exact ⟨i, j, rfl, rfl, hz, fun p hp => q _ _ ((e1.trans e2).trans (Ex.new hp)) (new_list ((s.ex e1).ex e2).there hp (dpAll_range i j))⟩
    | _ => cases h3
  | _ => cases h3⟩
/-! ### xs.index(y), s.split(sep) -/
def findD (y : PyData) : List PyData → Nat → Option Nat
  | [], _ => none
  | d :: ds, i => if PyData.eqv d y = true then some i else findD y ds (i + 1)
theorem findD_some {y : PyData} : ∀ {ds : List PyData} {i j : Nat}, findD y ds i = some j → i ≤ j ∧ (∃ z, ds[j - i]? = some z ∧ PyData.eqv z y = true) ∧ ∀ (m : Nat) (z : PyData), m < j - i → ds[m]? = some z → PyData.eqv z y = false
  | [], _, _, h => by cases h
  | d :: ds, i, j, h => by
    unfold findD at h
    by_cases hd : PyData.eqv d y = true
    · rw [if_pos hd] at h
      cases h
      rw [Nat.sub_self]
      exact ⟨Nat.le_refl _, ⟨d, rfl, hd⟩, fun m z hm => absurd hm (Nat.not_lt_zero _)⟩
    · rw [if_neg hd] at h
      obtain ⟨h1, ⟨z, h2, h3⟩, h4⟩ := findD_some h
      have e : j - i = (j - (i + 1)) + 1 := by omega
      refine ⟨by omega, ⟨z, by rw [e]; exact h2, h3⟩, fun m z' hm hz => ?_⟩
      cases m with
      | zero =>
        cases hz
        exact Bool.eq_false_iff.mpr hd
      | succ m => exact h4 m z' (by omega) hz
def mIndex (ma mb : En → Option PyData) : En → Option PyData := fun env => (ma env).bind fun a => (mb env).bind fun b => match a with
  | .list ds => if SeqAt.shaped (.list ds) = true ∧ SeqAt.shaped b = true then (findD b ds 0).map fun j => .int (j : Nat) else none
  | _ => none
theorem d_index (F : Fam X K N k) {p1 : Pos} (ha : MQ X K M a ta ma) (hb : MQ X K M b tb mb) (hp : ∀ i, PE (X i) (.Call (.Attribute a "index" p1) [b] [] pos) (tBM (X i).K "list" (rIndexD (X i).K) ta (tCons tb tNil))) :
    MD X K M (.Call (.Attribute a "index" p1) [b] [] pos) (tBM K "list" (rIndexD K) ta (tCons tb tNil)) (mIndex ma mb) := ⟨fun i => by
  have := hp i
  rw [F.hK i] at this
  exact this, fun H0 O0 O σ H env d s hmm Q q => by
  obtain ⟨x, y, h1, h2, h3⟩ := bind2 hmm
  refine ha.sd H0 O0 O σ H env x s h1 _ fun v H1 e1 hv => ?_
  cases x with
  | list ds =>
    obtain ⟨l, xs, rfl, s1, a1⟩ := hv.list
    refine ⟨.inl ⟨rfl, xs, s1⟩, hb.sd H0 O0 O σ H1 env y (s.ex e1) h2 _ fun w H2 e2 hw => ?_⟩
    have h3' : (if SeqAt.shaped (.list ds) = true ∧ SeqAt.shaped y = true then (findD y ds 0).map fun j => PyData.int (j : Nat) else none) = some d := h3
    by_cases hc : SeqAt.shaped (.list ds) = true ∧ SeqAt.shaped y = true
    · rw [if_pos hc] at h3'
      cases hj : findD y ds 0 with
      | none =>
        rw [hj] at h3'
        cases h3'
      | some j =>
        rw [hj] at h3'
        cases h3'
        obtain ⟨_, ⟨z, g1, g2⟩, g3⟩ := findD_some hj
        rw [Nat.sub_zero] at g1 g3
        exact ⟨l, w, y, ds, j, z, rfl, rfl, (hv.ex e2).dp, hw.dp, hc.1, hc.2, g1, g2, g3, q _ H2 (e1.trans e2) (.int _)⟩
    · rw [if_neg hc] at h3'
      cases h3'
  | _ => cases h3⟩
def mSplit (ma mb : En → Option PyData) : En → Option PyData := fun env => (ma env).bind fun a => (mb env).bind fun b => match a, b with
  | .str x, .str y => if (y.length == 0) = false ∧ x.length + 2 ≤ sizeLine then some (.list ((Txt.split x y).map .str)) else none
  | _, _ => none
theorem d_split {p1 : Pos} (ha : MD X K M a ta ma) (hb : MD X K M b tb mb) (hs : ∀ i, starEach [b] (X i).env = [(false, eval b (X i).env)] := by exact fun _ => rfl) (hbase : ∀ i, attributeBase a "split" (X i).env (eval a (X i).env) = eval a (X i).env := by exact fun _ => rfl) (hline : (p1.endLine == pos.line) = true := by rfl) :
    MD X K M (.Call (.Attribute a "split" p1) [b] [] pos) (tM1 (fun x xs H Q => ∃ a b, x = .str a ∧ xs = [.str b] ∧ (b.length == 0) = false ∧ a.length + 2 ≤ sizeLine ∧ rNewStrs (Txt.split a b) H Q) ta tb) (mSplit ma mb) := ⟨fun i => pe_split (ha.pe i) (hb.pe i) (hs i) (hbase i) hline, fun H0 O0 O σ H env d s hmm Q q => by
  obtain ⟨x, y, h1, h2, h3⟩ := bind2 hmm
  refine ha.sd H0 O0 O σ H env x s h1 _ fun v H1 e1 hv => ?_
  cases hv with
  | str x =>
    refine ⟨⟨_, rfl⟩, hb.sd H0 O0 O σ H1 env y (s.ex e1) h2 _ fun w H2 e2 hw => ?_⟩
    cases hw with
    | str y =>
      obtain ⟨hz, e⟩ := ite_some h3
      subst e
      exact ⟨x, y, rfl, rfl, hz.1, hz.2, fun p hp => q _ _ ((e1.trans e2).trans (Ex.new hp)) (new_list ((s.ex e1).ex e2).there hp (dpAll_of_strs _))⟩
    | _ => cases h3
  | _ => cases h3⟩
end
end

end Rv
namespace Rv
open PySem L2 PySem.Spec PyProof.Rows
/-! The data layer, part B: enumerate over tuples and lists; op=. -/

/-- a tuple's items with their numbers, each in a new pair; it stops right behind the last one -/
def IteT (K : PySem.W.Frag) (a : Addr) : It where
  go := fun i H => ∃ (xs : List V) (x : V), SqT K H a xs ∧ xs[i]? = some x
  yld := fun i H v later => ∃ (pair : Addr) (x : V), v = .ref pair ∧ H pair = none ∧ later = upd H pair (.tup [.int (i : Nat), x]) ∧ ∀ xs, SqT K H a xs → xs[i]? = some x
  stop := fun i H => ∃ xs : List V, SqT K H a xs ∧ xs.length = i
/-- the library's walk of enumerate over what a tuple's iterator draws, as it stands at one moment -/
theorem walkNow {X : Cx} {pins : List (Addr × Obj)} {σ : L2.St} {H : Hp} {s : Shared} {a en it : Addr} {i : Nat} {old : Value} {its : List Value} (inv : Inv X pins σ H s) (calm : X.calm = true) (tup : IsTup s.heap a its.toArray) (he : IsEnum s.heap en it ((i : Nat) : Int) old) (hit : s.heap.IsTupleIter it a i) (ne : en ≠ it) :
    WalksT X.prog X.w X.A en (en :: [it, a]) [en, it] its.toArray.size (fun i vals => ∃ t x, its.toArray[i]? = some x ∧ vals = #[.int i t, x]) (fun i h => (∃ old, IsEnum h en it i old) ∧ h.IsTupleIter it a i ∧ h.IsTuple a its.toArray)
      (fun i T h => (∃ x, IsEnumOut h en it ((i : Int) + 1) x T) ∧ (h.IsTupleIter it a (i + 1) ∧ h.IsTuple a its.toArray) ∧ T ≠ en ∧ T ≠ it) := by
  obtain ⟨oi, ati, ci, _⟩ := id hit
  obtain ⟨ot, att, ct, _⟩ := id tup
  have ne2 : a ≠ it := fun z => by
    rw [z, ati] at att
    obtain rfl := Option.some.inj att
    exact absurd (Value.type.inj (ci.symm.trans ct)) (by decide)
  have ne3 : en ≠ a := fun z => by
    rw [← z] at att
    have q := Option.some.inj (Eq.trans (Eq.symm (show s.heap.get? en = some _ from he)) att)
    rw [← q] at ct
    exact absurd (Value.type.inj ct) (by decide)
  exact WalksT.enumerateD (Draws.tuple (A := X.A.in1) (inv.ok.hd calm) it a ne2 its.toArray) en ne (by simp only [List.mem_cons, List.not_mem_nil, or_false, not_or]; exact ⟨ne, ne3⟩) List.mem_cons_self
set_option maxHeartbeats 1500000 in
theorem turnT {P : Program} {w : World} {K : PySem.W.Frag} {names : List Expr} {q : Nat} {at_ : Pos} (a en it : Addr) :
    Turn P w K (.Tuple names q at_) (IteT K a) [en, it] en (fun i h => (∃ old, IsEnum h en it ((i : Nat) : Int) old) ∧ h.IsTupleIter it a i ∧ en ≠ it) := by
  refine ⟨List.mem_cons_self, ?_, ?_, ?_, ?_, ?_⟩
  · rintro i h ⟨⟨old, he⟩, ⟨oi, ati, _, di⟩, _⟩ b hb
    cases hb with
    | head => exact ⟨_, he, fun _ z => nomatch z⟩
    | tail _ hb =>
      cases List.mem_singleton.mp hb
      exact ⟨oi, ati, fun v z => nomatch di.symm.trans z⟩
  · rintro i h h2 ⟨⟨old, he⟩, hit, ne⟩ stay
    exact ⟨⟨old, stay en List.mem_cons_self _ he⟩, hit.at (fun o z => stay it (List.mem_cons_of_mem _ List.mem_cons_self) o z), ne⟩
  · rintro X rfl rfl rfl calm i pins st σ H E inv free ⟨⟨old, he⟩, hit, ne⟩ ⟨xs, x, hs, hx⟩
    obtain ⟨its, rel, tup, _⟩ := inv.tuple hs
    obtain ⟨u, hu, ru⟩ := rel.get hx
    have W := walkNow inv calm tup he hit ne
    have room : i < its.toArray.size := by
      simpa only [List.size_toArray] using (List.getElem?_eq_some_iff.mp hu).1
    refine W.item i st _ E room ⟨⟨old, he⟩, hit, tup⟩ fun T vals h1 tk ⟨t, y, hy, hv⟩ newT isT mid stay => ⟨_, rfl, ?_⟩
    have same : y = u := Option.some.inj (hy.symm.trans (by rw [List.getElem?_toArray]; exact hu))
    subst same hv
    refine W.go names q at_ i T { st with heap := h1, toks := tk } _ E mid fun h2 ⟨en2, it2, _⟩ stay2 => ?_
    have apart : T ∉ [en, it] := W.apart i T h1 mid
    have isT2 : h2.IsTuple T #[.int i t, y] := isT.at fun o z => stay2 T o apart z
    have laid : ObjOk X.prog X.w (upd H T (.tup [.int (i : Nat), x])) h2 T (.tup [.int (i : Nat), x]) := ⟨show 2 ≤ sizeLine by decide, [.int i t, y], .cons ⟨t, rfl⟩ (.cons ru .nil), isT2⟩
    have inv2 := inv.turnedNew (t' := tk) (ch := [en, it]) (fun b o out z => stay2 b o out (stay b o out z)) free newT laid
    refine ⟨.ref T, _, inv2, rfl, ⟨T, x, rfl, inv.hok.fresh newT, rfl, fun ys hys => by rw [inv.tuple_inj hys hs]; exact hx⟩, ⟨en2, it2, ne⟩, fun b hb => ?_⟩
    rw [upd_ne fun (z : b = T) => apart (by rw [← z]; exact hb)]
    exact (free b hb).1
  · rintro X rfl rfl rfl calm i pins st σ H E inv free ⟨⟨old, he⟩, hit, ne⟩ ⟨xs, hs, hl⟩
    obtain ⟨its, rel, tup, _⟩ := inv.tuple hs
    have W := walkNow inv calm tup he hit ne
    have last : i = its.toArray.size := by
      rw [List.size_toArray, ← rel.length]
      exact hl.symm
    subst last
    refine W.done st _ E ⟨⟨old, he⟩, hit, tup⟩ fun h1 tk stay => ⟨rfl, ?_⟩
    have free2 : ∀ b ∈ [en, it], (b ∈ X.ex ∨ X.s_0.heap.objs.size ≤ b) ∧ b ≠ X.env.locals ∧ (∀ x c, X.env.cells.lookup x = some c → c ≠ b) ∧ ∀ p ∈ X.pn ++ pins, p.1 ≠ b := fun b hb => ⟨(free b hb).2.2.2.1, (free b hb).2.1, (free b hb).2.2.2.2.1, (free b hb).2.2.2.2.2⟩
    have nHb : ∀ b o, H b = some o → b ∉ [en, it] := fun b o z hb => by
      rw [(free b hb).1] at z
      cases z
    refine inv.step (g' := st.gens) (d' := st.drawn) (t' := tk) free2 (fun b o _ _ out z _ => stay b o out z) (fun b o _ _ out z _ => ⟨o.slots, stay b o out z⟩) (fun _ _ _ _ z => z) (fun b o out z => ⟨o, stay b o out z⟩) (fun _ _ z => z) (fun _ _ _ z => z) (fun b ps z => ⟨#[], by rw [z, Array.append_empty]⟩) (fun m hm => ?_) (fun b o z => ?_) inv.bare
    · obtain ⟨oL, es, ep, atL, more⟩ := hm
      exact ⟨oL, es, ep, stay _ _ (fun hb => (free2 _ hb).2.1 rfl) atL, more⟩
    · refine (inv.hok b o z).stay (fun c u hc atc => stay c u ?_ atc) (fun _ y => y) fun _ _ y => y
      rcases hc with rfl | hc
      · exact nHb _ _ z
      · exact nHb _ _ hc
  · rintro A i st Q E ⟨⟨old, he⟩, _⟩ goal
    exact wpAny_pyIter_enum he goal
set_option maxHeartbeats 1500000 in
/-- enumerate(v) of anything that begins -/
theorem enum_one {v : Value} {fresh : Obj} {Ok : Heap → Prop} (B : Begins v fresh Ok) :
    Meets (Builtin.«enumerate.__new__» ⟨[.type "enumerate", v], []⟩) fun _ R s => Ok s.heap ∧
      R (.ok (.ret (.ref (s.heap.push fresh).objs.size))) { s with heap := (s.heap.push fresh).push { cls := .type "enumerate", data := .fields #[.none, .bool false, .ref s.heap.objs.size, rawInt 0, .none, .none] } } := by
  refine .of_wp fun prog w A R s wish => ?_
  rcases s with ⟨heap, gens, drawn, toks, os⟩
  have sub := sub_enumerate
  have begin_ : ∀ {around : Around} {E Q : Value → Shared → Prop}, Q (.ref heap.objs.size) ⟨heap.push fresh, gens, drawn, toks, os⟩ → wpAny (model prog w) around (pyIter v) Q E ⟨heap, gens, drawn, toks, os⟩ := fun {around E Q} goal => B.iter prog w around E _ Q wish.1 goal
  wp_walk using begin_
  apply wpAny_stack_any
  intro st
  apply wpAny_pure
  split
  · rename_i kind _ _ _ _ _
    rcases (kind == Value.type "enumerate") with _ | _
    all_goals (wp_walk using begin_; exact ⟨_, rfl, wish.2⟩)
  · wp_walk using begin_
    exact ⟨_, rfl, wish.2⟩
theorem enum_tuple {prog : Program} {w : World} {A : Around} {E : Value → Shared → Prop} {s : Shared} {t : Addr} {items : Array Value} {Q : Value → Shared → Prop} (tup : s.heap.IsTuple t items)
    (next : ∀ h2, IsEnum h2 (s.heap.objs.size + 1) s.heap.objs.size 0 .none → h2.IsTupleIter s.heap.objs.size t 0 → (∀ b o, s.heap.get? b = some o → h2.get? b = some o) → Q (.ref (s.heap.objs.size + 1)) { s with heap := h2 }) :
    wpAny (model prog w) A (call (.type "enumerate") [.ref t]) Q E s := by
  have size := Heap.size_push s.heap { cls := .type "tuple_iterator", data := .fields #[.ref t, .int 0 0] }
  have made := enum_one (begins_tuple t items)
  refine callType_new F.called_enumerate (by decide) (F.typeCall_enumerate_1 _) (F.newCall_enumerate_1 _) (F.args_object_init_2 · _) F.entry_enumerate_new made ⟨tup, ?_⟩
  show _ ∧ _
  simp only [size]
  have isE := Heap.get?_push_size (s.heap.push { cls := .type "tuple_iterator", data := .fields #[.ref t, .int 0 0] }) (o := { cls := .type "enumerate", data := .fields #[.none, .bool false, .ref s.heap.objs.size, rawInt 0, .none, .none] }) rfl
  simp only [size] at isE
  exact ⟨⟨_, isE, rfl⟩, next _ isE ⟨_, Heap.get?_push_of_some _ (Heap.get?_push_size _ rfl), rfl, rfl⟩ fun _ _ z => Heap.get?_push_of_some _ (Heap.get?_push_of_some _ z)⟩
def iEnumT (K : PySem.W.Frag) (ta : TA) : TI := fun σ H R => ta σ H fun vs H1 => ∃ a xs, vs = [.ref a] ∧ SqT K H1 a xs ∧ R (IteT K a) H1
theorem pi_enumT {X : Cx} {e : Expr} {ta : TA} {p pos at_ : Pos} {names : List Expr} {q : Nat} (hg : Gl X "enumerate") (hm : X.mg "enumerate" = none) (ha : PA X [e] ta) (star : starEach [e] X.env = [(false, eval e X.env)] := by rfl) :
    PI X (.Tuple names q at_) (.Call (.Name "enumerate" p) [e] [] pos) (iEnumT X.K ta) := by
  constructor
  intro pins st σ H R inv wish
  have args := ha.run pos pins st σ H _ inv wish
  refine Call_ (ld_blt inv hg hm boot_enumerate (PyProof.Rows.callWith_type1 (thn args ?_) star rfl))
  rintro us s1 ⟨vs, H1, inv1, rel, a, xs, rfl, hs, goal⟩
  obtain ⟨only, rfl, is⟩ := vals1 rel
  cases is
  obtain ⟨its, _, tup, _⟩ := inv1.tuple hs
  refine enum_tuple tup fun h2 isE isI stay => wpAny_pyIter_enum isE ?_
  refine ⟨_, [s1.heap.objs.size + 1, s1.heap.objs.size], _, _, H1, rfl, inv1.kept (t' := s1.toks) stay, turnT a (s1.heap.objs.size + 1) s1.heap.objs.size, ⟨⟨.none, isE⟩, isI, Nat.succ_ne_self _⟩, fun b hb => ?_, goal⟩
  have above : s1.heap.objs.size ≤ b := by
    cases hb with
    | head => exact Nat.le_succ _
    | tail _ hb => exact Nat.le_of_eq (List.mem_singleton.mp hb).symm
  exact inv1.fpOk above (inv1.hok.fresh above)
def iEnumA (K : PySem.W.Frag) (ta : TA) : TI := fun σ H R => iEnum K ta σ H R ∨ iEnumT K ta σ H R
theorem pi_enumA {X : Cx} {K : PySem.W.Frag} (hK : X.K = K) {e : Expr} {ta : TA} {p pos at_ : Pos} {names : List Expr} {q : Nat} (hg : Gl X "enumerate") (hm : X.mg "enumerate" = none) (ha : PA X [e] ta) (star : starEach [e] X.env = [(false, eval e X.env)] := by rfl) :
    PI X (.Tuple names q at_) (.Call (.Name "enumerate" p) [e] [] pos) (iEnumA K ta) := by
  subst hK
  refine ⟨fun pins st σ H R inv => ?_⟩
  rintro (h | h)
  · exact (pi_enum hg hm ha star).run pins st σ H R inv h
  · exact (pi_enumT hg hm ha star).run pins st σ H R inv h
def enumD (ds : List PyData) : List PyData := (List.range ds.length).zipWith (fun (i : Nat) d => .tuple [.int (i : Int), d]) ds
theorem enumD_get {ds : List PyData} {i : Nat} {d : PyData} (h : (enumD ds)[i]? = some d) : ∃ x, ds[i]? = some x ∧ d = .tuple [.int (i : Nat), x] := by
  unfold enumD at h
  rw [List.getElem?_zipWith] at h
  by_cases z : i < ds.length
  · rw [List.getElem?_range z, List.getElem?_eq_getElem z] at h
    cases h
    exact ⟨ds[i], List.getElem?_eq_getElem z, rfl⟩
  · have e : ds[i]? = none := List.getElem?_eq_none (by omega)
    rw [e] at h
    cases hr : (List.range ds.length)[i]? with
    | none => rw [hr] at h; cases h
    | some y => rw [hr] at h; cases h
theorem enumD_len (ds : List PyData) : (enumD ds).length = ds.length := by
  unfold enumD
  rw [List.length_zipWith, List.length_range, Nat.min_self]
theorem wk_enumL {K : PySem.W.Frag} {H : Hp} {O : List Addr} {p : Addr} {xs : List V} {ds : List PyData} {b : Bool} (hs : SqL K (cut H O) p xs) (ha : DpAll K (cut H O) xs ds) : Wk K O (Ite K p) H (enumD ds) b := fun H' O' e1 ht _ i => by
  have hq : SqL K H' p xs := cut_ex.sl (e1.sl hs)
  refine ⟨fun d hd => ?_, fun hl => ⟨xs, hq, by rw [dpAll_len ha]; rw [enumD_len] at hl; exact Nat.le_of_eq hl⟩⟩
  obtain ⟨x, hx, rfl⟩ := enumD_get hd
  obtain ⟨v, hv, hd'⟩ := dpAll_get' ha hx
  refine ⟨⟨xs, v, hq, hv⟩, fun y H'' hy => ?_⟩
  obtain ⟨T, z, rfl, hT, rfl, hz⟩ := hy
  have : z = v := Option.some.inj ((hz xs hq).symm.trans hv)
  subst this
  exact ⟨Ex.new hT, new_tup ht hT (.cons (.int _) (.cons (dp_ex e1 hd') .nil))⟩
theorem wk_enumT {K : PySem.W.Frag} {H : Hp} {O : List Addr} {p : Addr} {xs : List V} {ds : List PyData} {b : Bool} (hs : SqT K (cut H O) p xs) (ha : DpAll K (cut H O) xs ds) : Wk K O (IteT K p) H (enumD ds) b := fun H' O' e1 ht _ i => by
  have hq : SqT K H' p xs := cut_ex.st (e1.st hs)
  refine ⟨fun d hd => ?_, fun hl => ⟨xs, hq, by rw [dpAll_len ha]; rw [enumD_len] at hl; exact hl⟩⟩
  obtain ⟨x, hx, rfl⟩ := enumD_get hd
  obtain ⟨v, hv, hd'⟩ := dpAll_get' ha hx
  refine ⟨⟨xs, v, hq, hv⟩, fun y H'' hy => ?_⟩
  obtain ⟨T, z, rfl, hT, rfl, hz⟩ := hy
  have : z = v := Option.some.inj ((hz xs hq).symm.trans hv)
  subst this
  exact ⟨Ex.new hT, new_tup ht hT (.cons (.int _) (.cons (dp_ex e1 hd') .nil))⟩
def enm : List PyData → Option (List PyData)
  | [.list xs] => some (enumD xs)
  | [.tuple xs] => some (enumD xs)
  | _ => none
section
variable {ι : Type} {X : ι → Cx} {K : PySem.W.Frag} {N : List Str} {k : Nat} {M : List Nat} {a b c e tg : Expr} {ta tb tc te : TE} {ma mb mc me : En → Option PyData} {pos : Pos}
theorem i_enum (F : Fam X K N k) {t : TA} {ms : En → Option (List PyData)} {p tpos : Pos} {elts : List Expr} {kk : Nat} (hm : ∀ i, (X i).mg "enumerate" = none) (h : MA X K M [a] t ms) (hg : ∀ i, Gl (X i) "enumerate" := by exact fun _ => rfl) (hs : ∀ i, starEach [a] (X i).env = [(false, eval a (X i).env)] := by exact fun _ => rfl) :
    MI X K M (.Tuple elts kk tpos) (.Call (.Name "enumerate" p) [a] [] pos) (iEnumA K t) (mRng enm ms) false := ⟨fun i => pi_enumA (F.hK i) (hg i) (hm i) (h.pa i) (hs i), fun H0 O0 O σ H env ds s hmm R q => by
  obtain ⟨es, h1, h2⟩ := bind1 hmm
  unfold enm at h2
  split at h2
  · cases h2
    refine .inl (h.sd H0 O0 O σ H env _ s h1 _ fun vs H1 e1 hv => ?_)
    cases hv with
    | cons hx ht =>
      cases ht
      cases hx with
      | lst hs ha => exact ⟨_, _, rfl, cut_ex.sl hs, q _ H1 e1 (wk_enumL hs ha)⟩
  · cases h2
    refine .inr (h.sd H0 O0 O σ H env _ s h1 _ fun vs H1 e1 hv => ?_)
    cases hv with
    | cons hx ht =>
      cases ht
      cases hx with
      | tup hs ha => exact ⟨_, _, rfl, cut_ex.st hs, q _ H1 e1 (wk_enumT hs ha)⟩
  · cases h2⟩
/-! ### op= -/
theorem ip_addI {Y : Cx} : PIp Y .Add (rI0 fun i j => .int (i + j)) := iop_add
theorem ip_mulA {Y : Cx} : PIp Y .Mult rMulA := fun pins s σ H x y v u Q I rx ry h => by
  obtain ⟨left, right, rfl, rfl, hc, q⟩ := h
  obtain ⟨t1, rfl⟩ := rx
  obtain ⟨t2, rfl⟩ := ry
  exact PyProof.Rows.imul_int ⟨.int _, H, I.tok _, ⟨_, rfl⟩, q⟩ (by
    rcases hc with hc | hc
    · exact hc.ok
    · exact hc.ok)
def dAddI := dI0 fun i j => .int (i + j)
theorem opd_addI : OpD K (rI0 fun i j => .int (i + j)) dAddI := opd_I0 fun _ _ _ => .int _
end

end Rv
namespace Rv
open PySem L2 PySem.Spec PyProof.Rows
/-! The data layer, part C: what the generated terms use. -/
theorem Fam.u70 {ι : Type} {X : ι → Cx} {K : PySem.W.Frag} {N : List Str} {k : Nat} (F : Fam X K N k) (i : ι) : (X i).A.units + 70 < cLine := by
  have := (F.room i).un
  omega
theorem len_nil : ∀ env ds, mNil env = some ds → ds.length = 0 := fun env ds h => by
  cases h
  rfl
theorem len_cons {m : En → Option PyData} {ms : En → Option (List PyData)} {n : Nat} (h : ∀ env ds, ms env = some ds → ds.length = n) : ∀ env ds, mCons m ms env = some ds → ds.length = n + 1 := fun env ds hd => by
  obtain ⟨d, r, _, h2, h3⟩ := bind2 hd
  cases h3
  rw [List.length_cons, h env r h2]
theorem fn_none {P : Program} {w : World} {K : PySem.W.Frag} {mg : Str → Option Value} {base : Heap} {N : List Str} {x qual : Str} {st : Stmt} {f : Addr} {fd : FuncData} {ps : List Str} {j : Nat} {fm : List PyData → Option PyData} (F : Fun K x qual st f fd) (S : FnScope N ps (defScope st)) (h : ∀ ds, fm ds = none) :
    FnOk P w K mg base CX0 (j + 1) f fd ps (spD K ps.length fm) := by
  refine F.ok S (fun vs H Q E hq => ?_) fun cdv A outer s H vs Q E hr hq => ?_
  · obtain ⟨ds, d, O, hl, _⟩ := hq
    exact hl
  · obtain ⟨ds, d, O, hl, ht, hv, hf, q⟩ := hq
    rw [h] at hf
    cases hf
/-! ### comparisons as tests -/
section
variable {ι : Type} {X : ι → Cx} {K : PySem.W.Frag} {N : List Str} {k : Nat} {M : List Nat} {a b c e : Expr} {ta tb tc te : TE} {ma mb mc me : En → Option PyData} {pos : Pos}
def mTst (m : En → Option PyData) : En → Option Bool := fun env => (m env).bind fun d => match d with
  | .bool b => some b
  | _ => none
theorem snd_tst (h : Snd K M te me) : SndT K M (tTest te) (mTst me) := fun H0 O0 O σ H env x s hm Q q => by
  obtain ⟨d, h1, h2⟩ := bind1 hm
  refine h H0 O0 O σ H env d s h1 _ fun v H1 e1 hv => ?_
  cases hv with
  | bl z =>
    cases h2
    exact ⟨_, rfl, q H1 e1⟩
  | _ => cases h2
theorem t_cmp {r : R2} {op : CmpOp} {f : PyData → PyData → Option PyData} (ho : ∀ i, OpR (X i) (compareOp op) r) (hf : OpD K r f) (ha : MQ X K M a ta ma) (hb : MQ X K M b tb mb) (hm : behindInMarks op b = false := by first | exact nomark _ | rfl) : MT X K M (.Compare a [op] [b] pos) (tTest (tOp r ta tb)) (mTst (mBin f ma mb)) :=
  ⟨fun i => pt_cmpR (ho i) (ha.pe i) (hb.pe i) hm, snd_tst (snd_op hf ha.sd hb.sd)⟩
theorem t_chain {r r' : R2} {op op' : CmpOp} {f g : PyData → PyData → Option PyData} (ho : ∀ i, OpR (X i) (compareOp op) r) (hf : OpD K r f) (ho' : ∀ i, OpR (X i) (compareOp op') r') (hg : OpD K r' g) (ha : MQ X K M a ta ma) (hb : MQ X K M b tb mb) (hc : MQ X K M c tc mc) (hm : lastMarks [op, op'] [b, c] = false := by with_unfolding_all rfl) :
    MT X K M (.Compare a [op, op'] [b, c] pos) (tTest (tChain r r' ta tb tc)) (mTst (mChain f g ma mb mc)) := ⟨fun i => pt_chain (ho i) (ho' i) (ha.pe i) (hb.pe i) (hc.pe i) hm, snd_tst (d_chain (pos := pos) ho hf ho' hg ha hb hc hm).sd⟩
end
/-- the law's end -/
def spLaw (K : PySem.W.Frag) : Sp := fun vs H Q _ =>
  ∃ (at_ : Addr) (script : List Int), vs = [.ref at_] ∧ SqL K H at_ (script.map V.int) ∧
    script.length ≤ 63 ∧ ∀ H', Q (.bl true) H'
theorem law_end {P : Program} {w : World} {K : PySem.W.Frag} {mg : Str → Option Value} {base : Heap} {j : Nat} {f : Addr} {fd : FuncData} {x : Str} {fm : List PyData → Option PyData} (G : FnOk P w K mg base CX0 j f fd [x] (spD K 1 fm)) (h : ∀ ns : List Int, ns.length ≤ 63 → fm [.list (ns.map .int)] = some (.bool true)) :
    FnOk P w K mg base CX0 j f fd [x] (spLaw K) := G.imp fun vs H Q E hq => by
  obtain ⟨a, ns, rfl, hs, hl, q⟩ := hq
  refine ⟨[.list (ns.map .int)], .bool true, [], rfl, (fun l z => absurd z (by simp)), DpAll.cons (.lst ?_ (dpAll_of_ints ns)) .nil, h ns hl, fun v H2 e hv => ?_⟩
  · have e0 : cut H [] = H := by
      funext a
      exact cut_out (by simp)
    rw [e0]
    exact hs
  · cases hv
    exact q _

end Rv
namespace Rv
open PySem L2 PySem.Spec PyProof.Rows
/-! The data layer, part D: is, isinstance of several types, own lists made by list(..) and +, x[i] = v. -/
section
variable {K : PySem.W.Frag}
/-! ### is, is not: of truths, and of None -/
def dIs (neg : Bool) : PyData → PyData → Option PyData
  | .bool x, .bool y => some (.bool (decide (x = y) != neg))
  | .none, .none => some (.bool (!neg))
  | .int _, .none => some (.bool neg)
  | .bool _, .none => some (.bool neg)
  | .str _, .none => some (.bool neg)
  | .list _, .none => some (.bool neg)
  | .tuple _, .none => some (.bool neg)
  | _, _ => none
def rIsB (neg : Bool) : R2 := fun x y H Q => (∃ p q, x = .bl p ∧ y = .bl q ∧ Q (.bl (decide (p = q) != neg)) H) ∨ (y = .non ∧ Q (.bl (decide (x = .non) != neg)) H)
theorem op_isB {X : Cx} : OpR X (compareOp .Is) (rIsB false) := fun pins s σ H x y v u Q I rx ry h => by
  rcases h with ⟨p, q, ex, ey, h⟩ | ⟨ey, h⟩
  · exact op_is_bl pins s σ H x y v u Q I rx ry ⟨p, q, ex, ey, by simpa using h⟩
  · exact op_isN pins s σ H x y v u Q I rx ry ⟨ey, by simpa using h⟩
theorem op_isNotB {X : Cx} : OpR X (compareOp .IsNot) (rIsB true) := fun pins s σ H x y v u Q I rx ry h => by
  rcases h with ⟨p, q, ex, ey, h⟩ | ⟨ey, h⟩
  · exact op_isnot_bl pins s σ H x y v u Q I rx ry ⟨p, q, ex, ey, by simpa using h⟩
  · exact op_notN pins s σ H x y v u Q I rx ry ⟨ey, by simpa using h⟩
theorem opd_is (neg : Bool) : OpD K (rIsB neg) (dIs neg) := fun H O x y d1 d2 d ht h1 h2 hf Q q => by
  have go : ∀ b, PyData.bool b = d → Q (.bl b) H := fun b e => by
    subst e
    exact q _ H (Ex.refl H) (.bl b)
  unfold dIs at hf
  split at hf
  · have e1 := h1.bool
    have e2 := h2.bool
    subst e1
    subst e2
    exact .inl ⟨_, _, rfl, rfl, go _ (Option.some.inj hf)⟩
  all_goals first
    | (cases hf; done)
    | (have e2 := h2.none
       subst e2
       refine .inr ⟨rfl, ?_⟩
       have ne : ∀ b, (decide (x = V.non)) = b → PyData.bool (b != neg) = d → Q (.bl (decide (x = V.non) != neg)) H := fun b e1 e3 => by
         rw [e1]
         exact go _ e3
       first
         | (have e1 := h1.none; subst e1; exact ne true (by decide) (by rw [← Option.some.inj hf]; cases neg <;> rfl))
         | (refine ne false (decide_eq_false ?_) (by rw [← Option.some.inj hf]; cases neg <;> rfl)
            intro z
            subst z
            first
              | exact nomatch h1.int
              | exact nomatch h1.bool
              | exact nomatch h1.str
              | (obtain ⟨_, _, e, _⟩ := h1.list; exact nomatch e)
              | (obtain ⟨_, _, e, _⟩ := h1.tuple; exact nomatch e)))
/-! ### isinstance of several types -/
section
variable {ι : Type} {X : ι → Cx} {N : List Str} {k : Nat} {M : List Nat} {a b c e tg : Expr} {ta tb tc te : TE} {ma mb mc me : En → Option PyData} {pos : Pos}
theorem d_isi2 (F : Fam X K N k) (S T : String) {x y : Str} {p p1 p2 p3 : Pos} {n : Nat} (h : MQ X K M e te me) (hm : ∀ i, (X i).mg "isinstance" = none) (hmx : ∀ i, (X i).mg x = none) (hmy : ∀ i, (X i).mg y = none)
    (hS : ∀ d, (kitB (tyN d) S).isSome = true) (hT : ∀ d, (kitB (tyN d) T).isSome = true) (hb : bootBuiltins x = some (.type S)) (hb2 : bootBuiltins y = some (.type T))
    (hg : ∀ i, Gl (X i) "isinstance" := by exact fun _ => rfl) (hgx : ∀ i, Gl (X i) x := by exact fun _ => rfl) (hgy : ∀ i, Gl (X i) y := by exact fun _ => rfl) (hn : x ≠ "__name__" := by decide) (hdb : (x == ("__debug__" : Str)) = false := by decide)
    (hn2 : y ≠ "__name__" := by decide) (hdb2 : (y == ("__debug__" : Str)) = false := by decide)
    (he : ∀ i, starEach [e, .Tuple [.Name x p1, .Name y p2] n p3] (X i).env = (false, eval e (X i).env) :: starEach [.Tuple [.Name x p1, .Name y p2] n p3] (X i).env := by exact fun _ => rfl)
    (he1 : ∀ i, starEach [.Tuple [.Name x p1, .Name y p2] n p3] (X i).env = (false, eval (.Tuple [.Name x p1, .Name y p2] n p3) (X i).env) :: starEach [] (X i).env := by exact fun _ => rfl)
    (he2 : ∀ i, starEach [.Name x p1, .Name y p2] (X i).env = (false, eval (.Name x p1) (X i).env) :: starEach [.Name y p2] (X i).env := by exact fun _ => rfl)
    (he3 : ∀ i, starEach [.Name y p2] (X i).env = (false, eval (.Name y p2) (X i).env) :: starEach [] (X i).env := by exact fun _ => rfl)
    (hpl : ∀ i, (backTo pos (starEach [.Tuple [.Name x p1, .Name y p2] n p3] (X i).env)).any (·.1) = false := by exact fun _ => rfl) :
    MD X K M (.Call (.Name "isinstance" p) [e, .Tuple [.Name x p1, .Name y p2] n p3] [] pos) (tCB (rIsiT K) (tCons te (tCons (tTup (tCons (tC (.ty S)) (tCons (tC (.ty T)) tNil))) tNil))) (mIsi (fun d => isiD S d || isiD T d) me) := ⟨fun i => by
  have := pe_callB (pos := pos) (p := p) (r := rIsiT (X i).K) call_isiT (hg i) (hm i) (by decide +kernel)
    (pa_cons (h.pe i) (pa_cons (pe_tup (pa_cons (pe_bltn (v := .ty S) (hgx i) (hmx i) hb rfl hn hdb) (pa_cons (pe_bltn (v := .ty T) (hgy i) (hmy i) hb2 rfl hn2 hdb2) pa_nil (he3 i)) (he2 i))) pa_nil (he1 i)) (he i)) (by decide) (by decide) (he i) (hpl i)
  rw [F.hK i] at this
  exact this, fun H0 O0 O σ H env d s hmm Q q => by
  obtain ⟨d1, h1, h2⟩ := bind1 hmm
  cases h2
  refine h.sd H0 O0 O σ H env d1 s h1 _ fun v H1 e1 hv => ?_
  refine ⟨by show 2 ≤ sizeLine; rw [sizeLine_eq]; omega, fun tp htp => ?_⟩
  obtain ⟨r1, g1⟩ := Option.isSome_iff_exists.mp (hS d1)
  obtain ⟨r2, g2⟩ := Option.isSome_iff_exists.mp (hT d1)
  have i1 : isiD S d1 = r1 := by rw [isiD, g1]; rfl
  have i2 : isiD T d1 = r2 := by rw [isiD, g2]; rfl
  refine ⟨v, tp, [.ty S, .ty T], .type (tyN d1), [.type S, .type T], isiD S d1 || isiD T d1, rfl, upd_same, .cons (.ty S) (.cons (.ty T) .nil), tyx (dp_ex (Ex.new htp) hv.dp), ?_, q _ _ (e1.trans (Ex.new htp)) (.bl _)⟩
  rw [i1, i2]
  refine kitAny_cons (kit_ty g1) (fun z => ?_) (fun z => by rw [z]; rfl)
  rw [z, Bool.false_or]
  exact kitAny_cons (kit_ty g2) (fun z => by rw [z]; exact kitAny_nil) (fun z => z)⟩
/-! ### own lists -/
/-- x = list(e) -/
theorem f_list {p : Pos} (h : MQ X K M e te me) (hp : ∀ i, PE (X i) (.Call (.Name "list" p) [e] [] pos) (tCB (rListA K) (tCons te tNil))) : MF X K M (.Call (.Name "list" p) [e] [] pos) (tCB (rListA K) (tCons te tNil)) (mCB bList (mCons me mNil)) := ⟨hp, fun H0 O0 O σ H env d s hmm Q q => by
  obtain ⟨ds, h1, h2⟩ := bind1 hmm
  obtain ⟨d1, ds2, g1, g2, g3⟩ := bind2 h1
  cases g2
  cases g3
  refine h.sd H0 O0 O σ H env d1 s g1 _ fun v H1 e1 hv => ?_
  unfold bList at h2
  split at h2
  · rename_i ys heq
    cases heq
    cases h2
    obtain ⟨a, xs, rfl, s1, a1⟩ := hv.list
    exact ⟨a, xs, rfl, .inl s1, fun l hl => q l xs ys _ (e1.free hl) (e1.trans (Ex.new hl)) rfl upd_same (by rw [cut_cons hl]; exact a1)⟩
  · rename_i ys heq
    cases heq
    cases h2
    obtain ⟨a, xs, rfl, s1, a1, _⟩ := hv.tuple
    exact ⟨a, xs, rfl, .inr s1, fun l hl => q l xs ys _ (e1.free hl) (e1.trans (Ex.new hl)) rfl upd_same (by rw [cut_cons hl]; exact a1)⟩
  · cases h2⟩
/-- x = a + b, of lists -/
def mCat (ma mb : En → Option PyData) : En → Option PyData := fun env => (ma env).bind fun a => (mb env).bind fun b => match a, b with
  | .list us, .list vs => if us.length + vs.length ≤ sizeLine then some (.list (us ++ vs)) else none
  | _, _ => none
theorem f_cat (F : Fam X K N k) (ha : MQ X K M a ta ma) (hb : MQ X K M b tb mb) : MF X K M (.BinOp a .Add b pos) (tOp (rAdds K) ta tb) (mCat ma mb) := ⟨fun i => pe_op (op_adds (F.hK i)) (ha.pe i) (hb.pe i), fun H0 O0 O σ H env d s hm Q q => by
  obtain ⟨da, db, h1, h2, h3⟩ := bind2 hm
  refine ha.sd H0 O0 O σ H env da s h1 _ fun x H1 e1 hx => ?_
  refine hb.sd H0 O0 O σ H1 env db (s.ex e1) h2 _ fun y H2 e2 hy => ?_
  have hx := hx.ex e2
  have e12 := e1.trans e2
  split at h3
  · obtain ⟨hz, e⟩ := ite_some h3
    subst e
    obtain ⟨l, xs, rfl, s1, a1⟩ := hx.list
    obtain ⟨m, ys, rfl, s2, a2⟩ := hy.list
    refine .inr (.inr (.inl ⟨l, m, xs, ys, rfl, rfl, s1, s2, by rw [dpAll_len a1, dpAll_len a2]; exact hz, fun p hp => ?_⟩))
    exact q p (xs ++ ys) _ _ (e12.free hp) (e12.trans (Ex.new hp)) rfl upd_same (by rw [cut_cons hp]; exact dpAll_app a1 a2)
  · cases h3⟩
/-- x[i] = e, of an own list -/
def mItem (i : Nat) (mi me : En → Option PyData) : En → Option Fl := fun env => (me env).bind fun d => (mVar i env).bind fun l => (mi env).bind fun at_ => match l, at_ with
  | .list ds, .int n => (ixN ds.length n).bind fun j => some (.nx (env.set i (some (.list (ds.set j d)))))
  | _, _ => none
theorem s_item (F : Fam X K N k) (i : Nat) {x : Str} {p1 p2 : Pos} (h : MD X K M e te me) (hb : MD X K M b tb mb) (hi : i ∈ M := by decide) (hd : dictS M i = 0 := by decide) (hp : ∀ j, PE (X j) (.Name x p1) (tVar i) := by exact fun _ => pv _)
    (ha : ∀ j v, assign (.Subscript (.Name x p1) b p2) (X j).env v = (do
      let ov ← holding [v] (eval (.Name x p1) (X j).env)
      let iv ← holding [v, ov] (eval b (X j).env)
      standAt p2
      holding [v, ov, iv]
        (setItem ov iv v)
      release [v, ov, iv] []) := by exact fun _ _ => rfl)
    (hs : ∀ j, swapsWithSole [.Subscript (.Name x p1) b p2] e pos.line (X j).env = pure false := by exact fun _ => rfl) (hw : ∀ j, swappedStores [.Subscript (.Name x p1) b p2] e (X j).env = pure none := by exact fun _ => rfl)
    (h1 : ∀ j, (assignEach [.Subscript (.Name x p1) b p2] (X j).env).map (·.2) = [assign (.Subscript (.Name x p1) b p2) (X j).env] := by exact fun _ => rfl) :
    MS X K M (.Assign [.Subscript (.Name x p1) b p2] e pos) (tAsg te (gSub (tVar i) tb rSetL)) (mItem i mb me) := ⟨fun j => ps_asg (h.pe j) (pg_sub (hp j) (hb.pe j) set_list (ha j)) (hs j) (hw j) (h1 j), fun H0 O0 O σ H env fl D s hm q => by
  obtain ⟨d, g1, g2⟩ := bind1 hm
  obtain ⟨d1, d2, g3, g4, g5⟩ := bind2 g2
  obtain ⟨l, xs, ds, w1, w2, w3, rfl, w5, w6⟩ := s.lst (join_some g3) hi hd
  refine h.sd H0 O0 O σ H env d s g1 _ fun v H1 e1 hv => ?_
  refine ⟨_, w1, hb.sd H0 O0 O σ H1 env d2 (s.ex e1) g4 _ fun u H2 e2 hu => ?_⟩
  have e12 := e1.trans e2
  split at g5
  · rename_i ds' n el
    cases el
    obtain ⟨j, hj, e⟩ := bind1 g5
    cases e
    cases hu
    have s2 := s.ex e12
    refine ⟨l, xs, n, j, rfl, rfl, e12 _ _ w5, by rw [dpAll_len w6]; exact hj, ?_⟩
    refine q σ _ O (s2.write hi hd (join_some g3) w1 w2 w3 (dpAll_set j (dpAll_ex (cut_mono e12) w6) (dp_ex (cut_mono e2) hv))) ?_
    rw [cut_write w2]
    exact cut_mono e12
  · cases g5⟩
end
end

end Rv
namespace Rv
open PySem L2 PySem.Spec PyProof.Rows
/-! The data layer, part E: zip of two lists or two tuples. -/
def zipD (us vs : List PyData) : List PyData := us.zipWith (fun p q => .tuple [p, q]) vs
theorem zipD_get {us vs : List PyData} {i : Nat} {d : PyData} (h : (zipD us vs)[i]? = some d) : ∃ p q, us[i]? = some p ∧ vs[i]? = some q ∧ d = .tuple [p, q] := by
  unfold zipD at h
  rw [List.getElem?_zipWith] at h
  cases e1 : us[i]? with
  | none => rw [e1] at h; cases h
  | some p =>
    cases e2 : vs[i]? with
    | none => rw [e1, e2] at h; cases h
    | some q =>
      rw [e1, e2] at h
      exact ⟨p, q, rfl, rfl, (Option.some.inj h).symm⟩
theorem zipD_len (us vs : List PyData) : (zipD us vs).length = min us.length vs.length := by
  unfold zipD
  exact List.length_zipWith
section
variable {K : PySem.W.Frag} {H : Hp} {O : List Addr} {p q : Addr} {xs ys : List V} {us vs : List PyData} {b : Bool}
theorem wk_zipL (s1 : SqL K (cut H O) p xs) (a1 : DpAll K (cut H O) xs us) (s2 : SqL K (cut H O) q ys) (a2 : DpAll K (cut H O) ys vs) : Wk K O (Itz K p q) H (zipD us vs) b := fun H' O' e1 ht _ i => by
  have q1 : SqL K H' p xs := cut_ex.sl (e1.sl s1)
  have q2 : SqL K H' q ys := cut_ex.sl (e1.sl s2)
  refine ⟨fun d hd => ?_, fun hl => ⟨xs, ys, q1, q2, ?_⟩⟩
  · obtain ⟨l, r, hx, hy, rfl⟩ := zipD_get hd
    obtain ⟨v1, g1, t1⟩ := dpAll_get' a1 hx
    obtain ⟨v2, g2, t2⟩ := dpAll_get' a2 hy
    refine ⟨⟨xs, ys, v1, v2, q1, q2, g1, g2⟩, fun y H'' hy => ?_⟩
    obtain ⟨T, z1, z2, rfl, hT, rfl, f1, f2⟩ := hy
    have w1 : z1 = v1 := Option.some.inj ((f1 xs q1).symm.trans g1)
    have w2 : z2 = v2 := Option.some.inj ((f2 ys q2).symm.trans g2)
    subst w1
    subst w2
    exact ⟨Ex.new hT, new_tup ht hT (.cons (dp_ex e1 t1) (.cons (dp_ex e1 t2) .nil))⟩
  · rw [zipD_len] at hl
    rw [dpAll_len a1, dpAll_len a2]
    omega
theorem wk_zipT (s1 : SqT K (cut H O) p xs) (a1 : DpAll K (cut H O) xs us) (s2 : SqT K (cut H O) q ys) (a2 : DpAll K (cut H O) ys vs) : Wk K O (RZ.ItzT K p q) H (zipD us vs) b := fun H' O' e1 ht _ i => by
  have q1 : SqT K H' p xs := cut_ex.st (e1.st s1)
  have q2 : SqT K H' q ys := cut_ex.st (e1.st s2)
  refine ⟨fun d hd => ?_, fun hl => ⟨xs, ys, q1, q2, ?_⟩⟩
  · obtain ⟨l, r, hx, hy, rfl⟩ := zipD_get hd
    obtain ⟨v1, g1, t1⟩ := dpAll_get' a1 hx
    obtain ⟨v2, g2, t2⟩ := dpAll_get' a2 hy
    refine ⟨⟨xs, ys, v1, v2, q1, q2, g1, g2⟩, fun y H'' hy => ?_⟩
    obtain ⟨T, z1, z2, rfl, hT, rfl, f1, f2⟩ := hy
    have w1 : z1 = v1 := Option.some.inj ((f1 xs q1).symm.trans g1)
    have w2 : z2 = v2 := Option.some.inj ((f2 ys q2).symm.trans g2)
    subst w1
    subst w2
    exact ⟨Ex.new hT, new_tup ht hT (.cons (dp_ex e1 t1) (.cons (dp_ex e1 t2) .nil))⟩
  · rw [zipD_len] at hl
    rw [dpAll_len a1, dpAll_len a2]
    omega
end
def zpd : List PyData → Option (List PyData)
  | [.list us, .list vs] => some (zipD us vs)
  | [.tuple us, .tuple vs] => some (zipD us vs)
  | _ => none
section
variable {ι : Type} {X : ι → Cx} {K : PySem.W.Frag} {N : List Str} {k : Nat} {M : List Nat} {a b : Expr} {pos : Pos}
theorem i_zip (F : Fam X K N k) {t : TA} {ms : En → Option (List PyData)} {p tpos : Pos} {elts : List Expr} {kk : Nat} (hm : ∀ i, (X i).mg "zip" = none) (h : MA X K M [a, b] t ms) (hg : ∀ i, Gl (X i) "zip" := by exact fun _ => rfl)
    (hs : ∀ i, starEach [a, b] (X i).env = (false, eval a (X i).env) :: starEach [b] (X i).env := by exact fun _ => rfl) (hpl : ∀ i, (backTo pos (starEach [b] (X i).env)).any (·.1) = false := by exact fun _ => rfl) :
    MI X K M (.Tuple elts kk tpos) (.Call (.Name "zip" p) [a, b] [] pos) (RZ.iZipA K t) (mRng zpd ms) false := ⟨fun i => by
  have := RZ.pi_zipA (X := X i) (elts := elts) (kk := kk) (tpos := tpos) (p := p) (hg i) (hm i) (h.pa i) (hs i) (hpl i)
  rw [F.hK i] at this
  exact this, fun H0 O0 O σ H env ds s hmm R q => by
  obtain ⟨es, h1, h2⟩ := bind1 hmm
  refine h.sd H0 O0 O σ H env _ s h1 _ fun vs H1 e1 hv => ?_
  unfold zpd at h2
  split at h2
  · cases h2
    cases hv with
    | cons hx ht =>
      cases ht with
      | cons hy hn =>
        cases hn
        cases hx with
        | lst s1 a1 =>
          cases hy with
          | lst s2 a2 => exact ⟨_, _, _, _, rfl, .inl ⟨cut_ex.sl s1, cut_ex.sl s2, q _ H1 e1 (wk_zipL s1 a1 s2 a2)⟩⟩
  · cases h2
    cases hv with
    | cons hx ht =>
      cases ht with
      | cons hy hn =>
        cases hn
        cases hx with
        | tup s1 a1 =>
          cases hy with
          | tup s2 a2 => exact ⟨_, _, _, _, rfl, .inr ⟨cut_ex.st s1, cut_ex.st s2, q _ H1 e1 (wk_zipT s1 a1 s2 a2)⟩⟩
  · cases h2⟩
end

end Rv
namespace Rv
open PySem L2 PySem.Spec PyProof.Rows
/-! The data layer, part F: sets of texts, as far as len and sorted ask of them. -/
/-- the text of a set's entry -/
def txt (e : Int × Value) : Str := match e.2 with
  | .str x _ => x
  | _ => Str.empty
def IsTxt (w : World) (e : Int × Value) : Prop := ∃ (x : Str) (u : Tok), e = (hashStr w x, Value.str x u)
/-- the texts l, each once, are the set at a; it can be walked -/
structure TxtSet (w : World) (h : Heap) (a : Addr) (l : List Str) : Prop where
  obj : ∃ o es ep t, h.get? a = some o ∧ o.ExactSet ∧ o.data = .set es ep t ∧ (∀ e ∈ es.toList, IsTxt w e) ∧ (es.toList.map txt).Perm l ∧ t.fits es.size = true ∧ Ris t.place.toList ∧ (w.params.followText "set-order" = true ∨ t.led = true)
  once : l.Nodup
  few : l.length < 64
theorem TxtSet.stay {w : World} {h h2 : Heap} {a : Addr} {l : List Str} (T : TxtSet w h a l) (keep : ∀ o, h.get? a = some o → h2.get? a = some o) : TxtSet w h2 a l := by
  obtain ⟨⟨o, es, ep, t, at_, more⟩, n, f⟩ := T
  exact ⟨⟨o, es, ep, t, keep o at_, more⟩, n, f⟩
section
variable {P : Program} {w : World} {A : Around} {E : Value → Shared → Prop} {s : Shared} {a : Addr} {l : List Str}
theorem txts_elems {es : List (Int × Value)} (g : ∀ e ∈ es, IsTxt w e) : ElemsOf (strKind P w) es := fun e he => by
  obtain ⟨x, u, rfl⟩ := g e he
  exact ⟨⟨x, strKind_is P w x u, rfl⟩, rfl⟩
theorem txt_is {e : Int × Value} (g : IsTxt w e) (k : Str) : (strKind P w).is k e.2 = true ↔ txt e = k := by
  obtain ⟨x, u, rfl⟩ := g
  show ((x == k) = true) ↔ x = k
  exact beq_iff_eq
theorem scan_room {n : Nat} (h : n < 64) : n < scanBound := Nat.lt_trans h (by decide)
/-- the table laid anew, with room for what it has -/
abbrev wider (t : SetTable) (es : Array (Int × Value)) := relayAll t es (SetTable.grown es.size)
/-- how an add ends, whatever the note g of a table that gave way is -/
theorem txt_end {g : Bool → Sem Unit} (note : ∀ (b : Bool) (s2 : Shared) (R : Unit → Shared → Prop), R () s2 → wpAny (model P w) A (g b) R E s2) {o : Obj} {es es1 : Array (Int × Value)} {ep : Nat} {t t2 : SetTable} {dummy : Bool} {R : Option Bool → Shared → Prop}
    (at_ : s.heap.get? a = some o) (exact_ : o.ExactSet) (data : o.data = .set es ep t) (small : es1.size < scanBound) (fits : t2.fits es1.size = true) (rises : Ris t2.place.toList) (led : w.params.followText "set-order" = true ∨ t2.led = true)
    (goal : ∀ {h2 : Heap} {o2 : Obj} {es2 : Array (Int × Value)} {ep2 : Nat} {t3 : SetTable}, h2.get? a = some o2 → o2.ExactSet → o2.data = .set es2 ep2 t3 → es2.toList.Perm es1.toList → t3.fits es2.size = true → Ris t3.place.toList →
      (w.params.followText "set-order" = true ∨ t3.led = true) → Heap.SameBut a s.heap h2 → R (some true) { s with heap := h2 }) :
    wpAny (model P w) A (do
      storeSet a es1 t2
      if (!dummy && t2.tooFull) = true then
        do
          g (wider t2 es1).2.2
          storeSet a (wider t2 es1).1 (wider t2 es1).2.1
          pure (some true)
      else
        pure (some true)) R E s := by
  have fst := store_at (es' := es1) (t' := t2) at_ data
  have but := Heap.SameBut.update s.heap a (Obj.putSet es1 t2)
  refine wpAny_bind (wpAny_storeSet_of at_ data ?_ (fits_of_scanBound small))
  by_cases full : (!dummy && t2.tooFull) = true
  · rw [if_pos full]
    have perm := relayAll_perm t2 es1 (SetTable.grown es1.size)
    have fits3 := relayAll_fits t2 es1 (SetTable.grown es1.size)
    have rises3 := relayAll_ris t2 es1 (SetTable.grown es1.size)
    have led3 := relayAll_led t2 es1 (SetTable.grown es1.size)
    have size3 : (relayAll t2 es1 (SetTable.grown es1.size)).1.size < scanBound := by
      rw [← Array.length_toList, perm.length_eq, Array.length_toList]
      exact small
    apply wpAny_bind
    apply note
    refine wpAny_bind (wpAny_storeSet_of fst rfl ?_ (fits_of_scanBound size3))
    apply wpAny_pure
    refine goal (store_at fst rfl) exact_ rfl perm fits3 rises3 ?_ (but.trans (Heap.SameBut.update _ a _))
    rw [led3]
    exact led
  · rw [if_neg full]
    apply wpAny_pure
    exact goal fst exact_ rfl (List.Perm.refl _) fits rises led but
/-- x is laid into the set -/
def ins (k : Str) (l : List Str) : List Str := if k ∈ l then l else k :: l
theorem TxtSet.add {k : Str} {u : Tok} {Q : Bool → Shared → Prop} (T : TxtSet w s.heap a l) (room : l.length < 63)
    (goal : ∀ h2, Heap.SameBut a s.heap h2 → TxtSet w h2 a (ins k l) → Q (decide (k ∉ l)) { s with heap := h2 }) :
    wpAny (model P w) A (setAddHashed a (.str k u) ((strKind P w).hash k)) Q E s := by
  obtain ⟨⟨o, es, ep, t, at_, exact_, data, good, same, fits, rises, led⟩, once, few⟩ := T
  have size : es.size = l.length := by
    rw [← same.length_eq, List.length_map, Array.length_toList]
  have elems : ElemsOf (strKind P w) es.toList := txts_elems good
  have small : es.size < scanBound := scan_room (size ▸ few)
  have isk : (strKind P w).is k (.str k u) = true := strKind_is P w k u
  have mem : k ∈ l ↔ ∃ e ∈ es.toList, (strKind P w).is k e.2 = true := by
    rw [← same.mem_iff, List.mem_map]
    exact ⟨fun ⟨e, he, q⟩ => ⟨e, he, (txt_is (good e he) k).mpr q⟩, fun ⟨e, he, q⟩ => ⟨e, he, (txt_is (good e he) k).mp q⟩⟩
  unfold setAddHashed
  unfold setAddHashedIn
  apply wpAny_holding
  refine wpAny_bind (wpAny_setState_of at_ data fits ?_)
  dsimp only
  rw [byScan_of (knd := strKind P w) (x := Value.str k u) rfl small elems]
  simp only [↓reduceIte]
  unfold setAddByScan
  apply wpAny_bind
  apply wpAny_bind
  apply wpAny_rule
  refine wpAny_bind (wpAny_setScan_of isk at_ data fits elems ?_)
  cases look : es.toList.findIdx? (fun e => (strKind P w).is k e.2) with
  | some j =>
    dsimp only
    obtain ⟨lt, yes, _⟩ := List.findIdx?_eq_some_iff_getElem.mp look
    have there : k ∈ l := mem.mpr ⟨_, List.getElem_mem lt, yes⟩
    have q := goal s.heap (Heap.SameBut.refl a s.heap) ⟨by
      rw [ins, if_pos there]
      exact ⟨o, es, ep, t, at_, exact_, data, good, same, fits, rises, led⟩, by rw [ins, if_pos there]; exact once, by rw [ins, if_pos there]; exact few⟩
    rw [decide_eq_false (fun z => z there)] at q
    exact wpAny_pure (wpAny_pure q)
  | none =>
    dsimp only
    have away : k ∉ l := fun z => by
      obtain ⟨e, he, yes⟩ := mem.mp z
      have no := List.findIdx?_eq_none_iff.mp look e he
      rw [yes] at no
      cases no
    rw [decide_eq_true away, ins, if_neg away] at goal
    have quiet : ∀ (b : Bool) {s2 : Shared} {R : Unit → Shared → Prop}, R () s2 → wpAny (model P w) A (match b with | true => rule "set.scan.the-table-gave-way" | false => pure ()) R E s2 := fun b s2 R r => by
      cases b
      · exact wpAny_pure r
      · exact wpAny_rule r
    have p1 := layNew_perm t es ((strKind P w).hash k) (.str k u)
    have f1 := layNew_fits t es ((strKind P w).hash k) (.str k u)
    have r1 := layNew_ris t es ((strKind P w).hash k) (.str k u) rises
    have l1 := layNew_led t es ((strKind P w).hash k) (.str k u)
    revert p1 f1 r1 l1
    generalize layNew t es ((strKind P w).hash k) (.str k u) = laid
    obtain ⟨es1, t1, wasDummy, gave⟩ := laid
    intro p1 f1 r1 l1
    dsimp only at p1 f1 r1 l1 ⊢
    rw [Array.toList_push] at p1
    have p2 : es1.toList.Perm ((hashStr w k, Value.str k u) :: es.toList) := p1.trans (List.perm_append_singleton _ _)
    have sz1 : es1.size = l.length + 1 := by
      rw [← Array.length_toList, p2.length_eq, List.length_cons, Array.length_toList, size]
    have led1 : w.params.followText "set-order" = true ∨ t1.led = true := led.imp id fun z => by
      rw [l1]
      exact z
    have good1 : ∀ e ∈ es1.toList, IsTxt w e := fun e he => by
      cases p2.mem_iff.mp he with
      | head => exact ⟨k, u, rfl⟩
      | tail _ he => exact good e he
    have done_ : ∀ {h2 : Heap} {o2 : Obj} {es2 : Array (Int × Value)} {ep2 : Nat} {t2 : SetTable}, h2.get? a = some o2 → o2.ExactSet → o2.data = .set es2 ep2 t2 → es2.toList.Perm es1.toList → t2.fits es2.size = true → Ris t2.place.toList →
        (w.params.followText "set-order" = true ∨ t2.led = true) → Heap.SameBut a s.heap h2 → Q true { s with heap := h2 } := fun {h2 o2 es2 ep2 t2} g1 g2 g3 g4 g5 g6 g7 g8 =>
      goal h2 g8 ⟨⟨o2, es2, ep2, t2, g1, g2, g3, fun e he => good1 e (g4.mem_iff.mp he), (g4.map txt).trans ((p2.map txt).trans (same.cons k)), g5, g6, g7⟩, List.nodup_cons.mpr ⟨away, once⟩, by
        rw [List.length_cons]
        omega⟩
    refine wpAny_bind (quiet _ ?_)
    have small1 : es1.size < scanBound := scan_room (by omega)
    by_cases plain : t1.plain = true
    · rw [if_pos plain, hashByValue_scannable 8 (x := Value.str k u) rfl]
      apply wpAny_bind
      apply wpAny_pure
      cases plainKind (Value.str k u)
      · exact txt_end (fun b _ _ r => quiet b r) at_ exact_ data small1 (SetTable.fits_plain_off f1) r1 led1 fun g1 g2 g3 g4 g5 g6 g7 g8 => wpAny_pure (done_ g1 g2 g3 g4 g5 g6 g7 g8)
      · exact txt_end (fun b _ _ r => quiet b r) at_ exact_ data small1 f1 r1 led1 fun g1 g2 g3 g4 g5 g6 g7 g8 => wpAny_pure (done_ g1 g2 g3 g4 g5 g6 g7 g8)
    · rw [if_neg plain]
      apply wpAny_bind
      apply wpAny_pure
      exact txt_end (fun b _ _ r => quiet b r) at_ exact_ data small1 f1 r1 led1 fun g1 g2 g3 g4 g5 g6 g7 g8 => wpAny_pure (done_ g1 g2 g3 g4 g5 g6 g7 g8)
/-- the texts met up to i, each once -/
def upTo (xs : List Str) (i : Nat) : List Str := (xs.take i).foldl (fun l k => ins k l) []
theorem upTo_next {xs : List Str} {i : Nat} {k : Str} (h : xs[i]? = some k) : upTo xs (i + 1) = ins k (upTo xs i) := by
  unfold upTo
  simp only [List.take_add_one, h, List.foldl_append]
  rfl
theorem ins_len (k : Str) (l : List Str) : (ins k l).length ≤ l.length + 1 := by
  unfold ins
  split
  · exact Nat.le_succ _
  · exact Nat.le_refl _
theorem upTo_len (xs : List Str) : ∀ i, i ≤ xs.length → (upTo xs i).length ≤ i
  | 0, _ => Nat.le_refl 0
  | i + 1, h => by
    rw [upTo_next (List.getElem?_eq_getElem h)]
    have := upTo_len xs i (by omega)
    have := ins_len xs[i] (upTo xs i)
    omega
theorem txt_loop {R : Result → Shared → Prop} {I : Addr} {fp wr : List Addr} {G : Array GenState → Array GenState → Prop} {n : Nat} {Pv : Nat → Value → Prop} {St : Nat → Shared → Prop} (W : WalksS P w A.in1 I fp wr G n Pv St) (S : Addr) (apart : S ∉ fp)
    (xs : List Str) (len : n = xs.length) (few : xs.length < 64) (val : ∀ i v, Pv i v → ∃ k t, xs[i]? = some k ∧ v = .str k t) : ∀ (left i : Nat) (s : Shared), n - i = left → i ≤ n → St i s → TxtSet w s.heap S (upTo xs i) →
      (∀ s2, Moved (S :: wr) G s s2 → TxtSet w s2.heap S (upTo xs n) → R (.ok (.ret .none)) s2) →
      codeAny (model P w) A (.builtin "set.update.loop" ⟨[.ref S, .ref I], []⟩) R s
  | 0, i, s, hl, hi, st, T, goal => by
    have notW : S ∉ wr := fun z => apart (W.sub _ z)
    obtain rfl : i = n := by omega
    apply codeAny_builtin F.entry_set_update_loop
    rw [Around.under_plainId F.plain_set_update_loop]
    show wpAny _ A.in1 (pyNext (.ref I) >>= fun x => _) _ _ _
    refine wpAny_bind (W.done s _ _ st fun s2 moved => ?_)
    refine wpAny_pure (goal s2 (moved.mono fun b hb => List.mem_cons_of_mem S hb) (T.stay fun o at_ => moved.heap S o notW at_))
  | left + 1, i, s, hl, hi, st, T, goal => by
    have notW : S ∉ wr := fun z => apart (W.sub _ z)
    have more : i < n := by omega
    apply codeAny_builtin F.entry_set_update_loop
    rw [Around.under_plainId F.plain_set_update_loop]
    show wpAny _ A.in1 (pyNext (.ref I) >>= fun x => _) _ _ _
    refine wpAny_bind (W.item i s _ _ more st fun v s2 pv st2 moved => ?_)
    obtain ⟨k, u, at_k, rfl⟩ := val i v pv
    show wpAny _ A.in1 (holding [Value.str k u] (setAdd S (.str k u)) >>= fun x => _) _ _ _
    apply wpAny_bind
    apply wpAny_holding
    unfold setAdd
    apply wpAny_holding
    refine wpAny_bind ((strKind P w).pyHash (k := k) (strKind_is P w k u) ?_)
    have T2 : TxtSet w s2.heap S (upTo xs i) := T.stay fun o at_ => moved.heap S o notW at_
    have short := upTo_len xs i (by omega)
    refine TxtSet.add (s := { s2 with toks := s2.toks + 1 }) T2 (by omega) fun h3 but T3 => ?_
    rw [← upTo_next at_k] at T3
    have other : ∀ b o, b ≠ S → s2.heap.get? b = some o → h3.get? b = some o := fun b o ne at_ => by
      rw [but.2 b ne]
      exact at_
    refine wpAny_pure ⟨plainId_quiet F.plain_set_update_loop _, ?_⟩
    refine txt_loop W S apart xs len few val left (i + 1) _ (by omega) more (W.frame _ s2 _ _ st2 (Nat.le_succ _) fun b hb o at_ => other b o (fun z => apart (z ▸ hb)) at_) T3 fun s4 moved4 T4 => goal s4 (Moved.trans W.gtrans ?_ moved4) T4
    exact (moved.mono fun b hb => List.mem_cons_of_mem S hb).then_heap (Nat.le_succ _) fun b o hb at_ => other b o (fun z => hb (z ▸ List.mem_cons_self)) at_
/-- the set as it is made -/
abbrev bareSet (w : World) : Obj := { cls := .type "set", dict := none, data := .set #[] 0 (.fresh 0 0 (!w.params.followText "set-order")) }
theorem txtSet_bare {h : Heap} {b : Addr} (at_ : h.get? b = some (bareSet w)) : TxtSet w h b [] := by
  obtain ⟨S, es, ep, t, o1, o2, o3, o4, o5, o6, o7, o8, o9, o10, o11⟩ := setR_new_at (ns := []) at_
  have e : (bareSet w) = S := Option.some.inj (at_.symm.trans o1)
  subst e
  have none_ : es = #[] := by
    injection o3 with z _ _
    exact z.symm
  subst none_
  exact ⟨⟨_, _, ep, t, o1, o2, o3, (fun _ he => nomatch he), List.Perm.refl _, o8, o10, o11⟩, List.nodup_nil, by decide⟩
theorem strs_get : ∀ {us : List Value} {xs : List Str}, StrsAre us xs → ∀ (i : Nat) (v : Value), us[i]? = some v → ∃ k t, xs[i]? = some k ∧ v = .str k t
  | _, _, .nil, i, v, h => nomatch h
  | _, _, .cons x t _, 0, v, h => ⟨x, t, rfl, (Option.some.inj h).symm⟩
  | _, _, .cons _ _ rest, i + 1, v, h => strs_get rest i v h
set_option maxHeartbeats 5000000 in
theorem init_of_txts {b : Addr} {items : Array Value} {xs : List Str} (calm : A.handled = none) (isL : s.heap.IsList b items) (are : StrsAre items.toList xs) (few : xs.length < 64) :
    codeAny (model P w) A.in1 (.call (.builtin "set.__init__") ⟨[.ref s.heap.objs.size, .ref b], []⟩)
          (wants (fun r s2 => r = .none ∧ ∃ h2 tk, s2 = { s with heap := h2, toks := tk } ∧ TxtSet w h2 s.heap.objs.size (upTo xs xs.length) ∧ ∀ c o, s.heap.get? c = some o → h2.get? c = some o) E) { s with heap := s.heap.push (bareSet w) } := by
  have ft := F.called_set
  have at_ : (s.heap.push (bareSet w)).get? s.heap.objs.size = some (bareSet w) := Heap.get?_push_size _ rfl
  have type_ : Shared.TypeIs { s with heap := s.heap.push (bareSet w) } (.ref s.heap.objs.size) "set" := ⟨_, at_, rfl⟩
  apply codeAny_call_builtin ft.init.plain F.entry_set_init
  apply check_set_init_1 type_
  obtain ⟨⟨_, dict_, _, slots_⟩, atL, rfl, nl, rfl⟩ := isL
  have atL2 := Heap.get?_push_of_some (bareSet w) atL
  have ltL : b < s.heap.objs.size := Heap.lt_size atL
  have size1 : (s.heap.push (bareSet w)).objs.size = s.heap.objs.size + 1 := Heap.size_push _ _
  have isL2 : (s.heap.push (bareSet w)).IsList b items := ⟨_, atL2, rfl, nl, rfl⟩
  have no1 := F.sub_list_set
  have no2 := F.sub_list_frozenset
  have no3 : (Value.type "list" == Value.type "dict") = false := by decide
  unfold Builtin.«set.__init__»
  unfold noKeywords
  unfold Builtin.Frozenset.updateFrom
  generalize iterIs : pyIter = go
  wp_walk
  subst iterIs
  refine wpAny_pyIter_list isL2 ?_
  apply wpAny_bind
  apply wpAny_runValue
  have ne : b ≠ (s.heap.push (bareSet w)).objs.size := by
    rw [size1]
    exact Nat.ne_of_lt (Nat.lt_succ_of_lt ltL)
  have apart : s.heap.objs.size ∉ [(s.heap.push (bareSet w)).objs.size, b] := fun z => by
    rw [size1] at z
    obtain e | e := List.mem_cons.mp z
    · exact Nat.ne_of_lt (Nat.lt_succ_self _) e
    · exact Nat.ne_of_gt ltL (List.mem_singleton.mp e)
  have len : items.size = xs.length := by
    rw [← Array.length_toList]
    exact StrsAre.len_eq are
  have val : ∀ (i : Nat) (v : Value), items[i]? = some v → ∃ k t, xs[i]? = some k ∧ v = .str k t := fun i v hv => strs_get are i v (by
    rw [Array.getElem?_toList]
    exact hv)
  have W := (Walks.list (prog := P) (w := w) (A := A.in1.in1.in1) (by simp [calm]) (s.heap.push (bareSet w)).objs.size b ne items).toS
  refine txt_loop W s.heap.objs.size apart xs len few val items.size 0 _ (Nat.sub_zero _) (Nat.zero_le _) ⟨⟨_, Heap.get?_push_size _ rfl, rfl, rfl⟩, isL2.push _⟩ (txtSet_bare (Heap.get?_push_of_some _ at_)) ?_
  rintro ⟨h2, g2, d2, tk, os2⟩ moved T
  obtain rfl : g2 = s.gens := moved.gens
  obtain rfl : d2 = s.drawn := moved.drawn
  obtain rfl : os2 = s.os := moved.os
  rw [len] at T
  apply wpAny_pure
  apply wpAny_pure
  refine ⟨rfl, h2, tk, rfl, T, fun c o at_c => ?_⟩
  have ltc : c < s.heap.objs.size := Heap.lt_size at_c
  refine moved.heap c o (fun z => ?_) (Heap.get?_push_of_some _ (Heap.get?_push_of_some _ at_c))
  obtain e | e := List.mem_cons.mp z
  · exact Nat.ne_of_lt ltc e
  · have e2 := List.mem_singleton.mp e
    rw [size1] at e2
    exact Nat.ne_of_lt (Nat.lt_succ_of_lt ltc) e2
set_option maxHeartbeats 5000000 in
/-- set(xs) of a list of texts -/
theorem set_of_txts {b : Addr} {items : Array Value} {xs : List Str} {Q : Value → Shared → Prop} (calm : A.handled = none) (isL : s.heap.IsList b items) (are : StrsAre items.toList xs) (few : xs.length < 64)
    (goal : ∀ (h2 : Heap) (tk : Nat), TxtSet w h2 s.heap.objs.size (upTo xs xs.length) → (∀ c o, s.heap.get? c = some o → h2.get? c = some o) → Q (.ref s.heap.objs.size) { s with heap := h2, toks := tk }) :
    wpAny (model P w) A (call (.type "set") [.ref b]) Q E s := by
  have ft := F.called_set
  obtain ⟨_, _, mro⟩ := ft.mro
  have made := ft.made
  have sub := ft.sub
  have notType := ft.notType
  have can := ft.canCreate
  have okay := F.typeCall_set_1 (.ref b)
  apply wpAny_call
  apply codeAny_of_tree
  show wpAny _ _ (callAny (.type "set") ⟨[.ref b], []⟩) _ _ _
  apply wpAny_pure
  refine ⟨Code.quiet_builtin _ (by decide +kernel), ?_⟩
  apply codeAny_builtin F.entry_type_call
  rw [Around.under_plain (weight_type_call_type "set" [.ref b] []) rfl]
  repeat' (first | assumption | wp_step)
  have begun := code_set_led1 (P := P) (w := w) (A := A.in1) (s := s) (.ref b) (E := E) (Q₁ := fun x s1 => x = .ref s.heap.objs.size ∧ s1 = { s with heap := s.heap.push (bareSet w) }) ⟨rfl, rfl⟩
  refine codeAny_mono begun ?_
  rintro (err | flow) s1 got
  · exact got
  · cases flow with
    | ret x =>
      obtain ⟨rfl, rfl⟩ := got
      have at_ : (s.heap.push (bareSet w)).get? s.heap.objs.size = some (bareSet w) := Heap.get?_push_size _ rfl
      have type_ : Shared.TypeIs { s with heap := s.heap.push (bareSet w) } (.ref s.heap.objs.size) "set" := ⟨_, at_, rfl⟩
      have look := ft.init.lookup
      have bind_ := ft.init.bind (.ref s.heap.objs.size)
      repeat' (first | assumption | wp_step)
      have filled := init_of_txts (P := P) (w := w) (E := E) calm isL are few
      refine codeAny_mono filled ?_
      rintro (err | flow) s2 got
      · exact got
      · cases flow with
        | ret x =>
          obtain ⟨rfl, h2, tk, rfl, T, stay⟩ := got
          repeat' (first | assumption | wp_step)
          exact goal h2 tk T stay
        | _ => exact got.elim
    | _ => exact got.elim
end

end Rv
namespace Rv
open PySem L2 PySem.Spec PyProof.Rows
/-! The data layer, part G: len(set(xs)) and sorted(set(xs)) of lists of texts. -/
def leT (x y : Str) : Bool := decide (x.cps.toList ≤ y.cps.toList)
theorem leT_trans (x y z : Str) (h1 : leT x y = true) (h2 : leT y z = true) : leT x z = true :=
  decide_eq_true (List.le_trans (of_decide_eq_true h1) (of_decide_eq_true h2))
theorem leT_total (x y : Str) : (leT x y || leT y x) = true := by
  rcases List.le_total x.cps.toList y.cps.toList with h | h
  · rw [leT, decide_eq_true h]
    rfl
  · rw [leT, leT, decide_eq_true h, Bool.or_true]
theorem leT_anti {x y : Str} (h1 : leT x y = true) (h2 : leT y x = true) : x = y := by
  have e := List.le_antisymm (of_decide_eq_true h1) (of_decide_eq_true h2)
  cases x
  cases y
  exact congrArg Str.mk (Array.toList_inj.mp e)
/-- the texts of l, rising -/
def sortT (l : List Str) : List Str := l.mergeSort leT
theorem sortT_perm {l m : List Str} (p : l.Perm m) : sortT l = sortT m :=
  List.Perm.eq_of_pairwise (fun _ _ _ _ h1 h2 => leT_anti h1 h2) (List.pairwise_mergeSort leT_trans leT_total l) (List.pairwise_mergeSort leT_trans leT_total m) ((List.mergeSort_perm l leT).trans (p.trans (List.mergeSort_perm m leT).symm))
def IsS (v : Value) (x : Str) : Prop := ∃ t, v = .str x t
theorem each_txt : ∀ (vs : List Value), (∀ v ∈ vs, ∃ x t, v = Value.str x t) → PySem.W.EachIs IsS vs (vs.map strOf)
  | [], _ => .nil
  | v :: vs, h => by
    obtain ⟨x, t, rfl⟩ := h v List.mem_cons_self
    exact .cons ⟨t, rfl⟩ (each_txt vs fun u hu => h u (List.mem_cons_of_mem _ hu))
theorem each_vstr : ∀ {vs : List Value} {xs : List Str}, PySem.W.EachIs IsS vs xs → Vals (xs.map V.str) vs
  | _, _, .nil => .nil
  | _, _, .cons h r => .cons h (each_vstr r)
section
variable {P : Program} {w : World} {A : Around} {E : Value → Shared → Prop} {s : Shared} {a : Addr} {l : List Str}
theorem sorted_txts {Q : Value → Shared → Prop} (T : TxtSet w s.heap a l) (calm : A.handled = none) (units : A.units + 70 < cLine)
    (goal : ∀ (s2 : Shared) (p : Addr) (out : List Value) (c : Nat), (∀ b o, s.heap.get? b = some o → s2.heap.get? b = some o) → s2.gens = s.gens → s2.os = s.os → s.heap.objs.size ≤ p → s2.heap.get? p = some (seqObj "list" out.toArray c) → PySem.W.EachIs IsS out (sortT l) → Q (.ref p) s2) :
    wpAny (model P w) A
      (call (.builtin "sorted") [.ref a]) Q E s := by
  obtain ⟨⟨o, es, ep, t, at_, exact_, data, good, same, fits, rises, led⟩, once, few⟩ := T
  have size : es.size = l.length := by
    rw [← same.length_eq, List.length_map, Array.length_toList]
  have small : es.size < scanBound := scan_room (size ▸ few)
  refine Calls.call_function_entry kind_sorted plain_sorted entry_sorted (args_sorted1 (.ref a)) ?_
  unfold Builtin.«sorted»
  apply wpAny_bind (m := checkCount "sorted" 1 1 _)
  apply wpAny_pure
  refine wpAny_bind (collect_set (A := A.in1) (by simpa using calm) ⟨o, at_, exact_.1, data⟩ fits small rises led ?_)
  intro s1 vs keep more g1 o1 perm
  have len : vs.length = l.length := by
    rw [perm.length_eq, List.length_map, Array.length_toList, size]
  have txts : ∀ v ∈ vs, ∃ x t, v = Value.str x t := fun v hv => by
    obtain ⟨e, he, rfl⟩ := List.mem_map.mp (perm.mem_iff.mp hv)
    obtain ⟨x, u, rfl⟩ := good e he
    exact ⟨x, u, rfl⟩
  have words : (vs.map strOf).Perm l := by
    refine (perm.map strOf).trans (List.Perm.trans ?_ same)
    rw [List.map_map]
    refine List.Perm.of_eq (List.map_congr_left fun e he => ?_)
    obtain ⟨x, u, rfl⟩ := good e he
    rfl
  refine wpAny_bind (wpAny_newList ?_ (by rw [len, sizeLine_eq]; omega))
  have made : (s1.heap.push (seqObj "list" vs.toArray 0)).get? s1.heap.objs.size = some (seqObj "list" vs.toArray 0) := Heap.get?_push_size _ rfl
  have each := each_txt vs txts
  refine wpAny_bind (wpAny_holding (PySem.W.list_sort_data (R := IsS) (enc := PyData.str) (bs := vs.map strOf) made each (each.mono fun v x hv => ?_) ?_ ?_ ?_ ?_ fun out hl is => ?_))
  · obtain ⟨u, rfl⟩ := hv
    exact ⟨[], PyProof.V.reads_key_str (prog := P) (w := w) x (.str x u) (strKind_is P w x u), List.not_mem_nil⟩
  · exact PySem.W.AllAlike.of fun _ _ => rfl
  · exact PySem.W.Sortable.others fun _ => ⟨(fun z => nomatch z), (fun _ z => nomatch z)⟩
  · rw [List.length_map, len, sizeLine_eq]
    omega
  · intro x _
    show A.units + 1 + 1 + 0 < cLine
    omega
  · rw [PySem.W.dataLe_str] at is
    have is2 : PySem.W.EachIs IsS out (sortT l) := by
      rw [← sortT_perm words]
      exact is
    obtain ⟨c, at2⟩ := sortedHeap_at (vs := vs) (out := out.toArray) made
    have stays : ∀ b u, s.heap.get? b = some u → (sortedHeap (s1.heap.push (seqObj "list" vs.toArray 0)) s1.heap.objs.size vs out.toArray).get? b = some u := fun b u at_b => by
      have at_b1 := keep b u at_b
      have lt := Heap.lt_size at_b1
      rw [sortedHeap_old (Nat.ne_of_lt lt) (by rw [size_push']; exact Nat.lt_succ_of_lt lt)]
      exact Heap.get?_push_of_some _ at_b1
    generalize sortedHeap (s1.heap.push (seqObj "list" vs.toArray 0)) s1.heap.objs.size vs out.toArray = late at at2 stays ⊢
    apply wpAny_pure
    exact ⟨_, rfl, goal { s1 with heap := late } _ out c stays g1 o1 more at2 is2⟩
end
/-! ### the two readings -/
theorem strsAre_vals : ∀ {xs : List Str} {us : List Value}, Vals (xs.map V.str) us → StrsAre us xs
  | [], _, .nil => .nil
  | x :: xs, _, .cons ⟨t, h⟩ r => by
    subst h
    exact .cons x t (strsAre_vals r)
/-- set(xs), whatever is asked of it: what comes of the set is W's business -/
def tSetOf (K : PySem.W.Frag) (ta : TE) (R : List Str → Hp → VK → Prop) : TE := fun σ H Q => ta σ H fun x H1 => ∃ b xs, x = .ref b ∧ SqL K H1 b (xs.map V.str) ∧ xs.length < 64 ∧ R (upTo xs xs.length) H1 Q
def rLenT : List Str → Hp → VK → Prop := fun l H Q => Q (.int (l.length : Nat)) H
def rSortT : List Str → Hp → VK → Prop := fun l H Q => ∀ p, H p = none → Q (.ref p) (upd H p (.lst ((sortT l).map V.str)))
section
variable {X : Cx} {e : Expr} {ta : TE} {p p2 q pos : Pos}
theorem pe_lenT (calm : X.calm = true) (hg : Gl X "len") (hm : X.mg "len" = none) (hg2 : Gl X "set") (hm2 : X.mg "set" = none) (ha : PE X e ta)
    (star : starEach [e] X.env = (false, eval e X.env) :: starEach [] X.env := by rfl) : PE X (.Call (.Name "len" p) [.Call (.Name "set" p2) [e] [] q] [] pos) (tSetOf X.K ta rLenT) := by
  constructor
  intro pins st σ H Q inv wish
  refine Call_ (ld_blt inv hg hm boot_len ?_)
  refine callWith_builtin1 (args_cons (Call_ (ld_blt inv hg2 hm2 boot_set (callWith_type1 (args_cons (thn (ha.run pins st σ H _ inv wish) ?_) star) star rfl))) rfl) rfl rfl
  rintro v s1 ⟨x, H1, inv1, rel, b, xs, rfl, there, few, goal⟩
  cases rel
  obtain ⟨its, vals, plain, _⟩ := inv1.list there
  apply args_nil
  refine set_of_txts (inv1.ok.hd calm) plain.isList (by simpa using strsAre_vals vals) few fun h2 tk T stay => ?_
  obtain ⟨⟨o, es, ep, t, at_, exact_, data, _, same, fits, _⟩, _, short⟩ := T
  have size : es.size = (upTo xs xs.length).length := by
    rw [← same.length_eq, List.length_map, Array.length_toList]
  have inv2 := inv1.kept (t' := tk) stay
  apply args_nil
  exact call_len_set at_ exact_ data fits (by omega) ⟨.int ((upTo xs xs.length).length : Nat), H1, inv2.tok _, ⟨_, by rw [size]⟩, goal⟩
theorem pe_sortT (calm : X.calm = true) (units : X.A.units + 70 < cLine) (hg : Gl X "sorted") (hm : X.mg "sorted" = none) (hg2 : Gl X "set") (hm2 : X.mg "set" = none) (ha : PE X e ta)
    (star : starEach [e] X.env = (false, eval e X.env) :: starEach [] X.env := by rfl) : PE X (.Call (.Name "sorted" p) [.Call (.Name "set" p2) [e] [] q] [] pos) (tSetOf X.K ta rSortT) := by
  constructor
  intro pins st σ H Q inv wish
  refine Call_ (ld_blt inv hg hm boot_sorted ?_)
  refine callWith_builtin1 (args_cons (Call_ (ld_blt inv hg2 hm2 boot_set (callWith_type1 (args_cons (thn (ha.run pins st σ H _ inv wish) ?_) star) star rfl))) rfl) rfl rfl
  rintro v s1 ⟨x, H1, inv1, rel, b, xs, rfl, there, few, goal⟩
  cases rel
  obtain ⟨its, vals, plain, _⟩ := inv1.list there
  apply args_nil
  refine set_of_txts (inv1.ok.hd calm) plain.isList (by simpa using strsAre_vals vals) few fun h2 tk T stay => ?_
  have inv2 := inv1.kept (t' := tk) stay
  have short := T.few
  apply args_nil
  refine sorted_txts T (inv1.ok.hd calm) units fun s3 at3 out c stay3 g3 o3 above laid is => ?_
  have len : ((sortT (upTo xs xs.length)).map V.str).length ≤ sizeLine := by
    rw [List.length_map, sortT, List.length_mergeSort, sizeLine_eq]
    omega
  have free : H1 at3 = none := inv2.hok.fresh above
  have inv3 : Inv X pins σ (upd H1 at3 (.lst ((sortT (upTo xs xs.length)).map V.str))) { ({ s1 with heap := h2, toks := tk } : Shared) with heap := s3.heap, gens := s3.gens, drawn := s3.drawn, toks := s3.toks } :=
    inv2.call (ch := []) (Un.laid stay3 above free) (inv2.hok.laid stay3 above ⟨len, out, c, each_vstr is, laid⟩) (by rw [g3]; exact inv2.bare) (fun _ z => nomatch z)
  have e3 : s3 = { ({ s1 with heap := h2, toks := tk } : Shared) with heap := s3.heap, gens := s3.gens, drawn := s3.drawn, toks := s3.toks } := by
    cases s3
    cases o3
    rfl
  rw [e3]
  exact ⟨.ref at3, _, inv3, rfl, goal at3 free⟩
end
/-! ### the mirrors -/
def strsOf : List PyData → Option (List Str)
  | [] => some []
  | .str x :: ds => (strsOf ds).bind fun xs => some (x :: xs)
  | _ :: _ => none
theorem strsOf_some : ∀ {ds : List PyData} {xs : List Str}, strsOf ds = some xs → ds = xs.map .str
  | [], xs, h => by
    cases h
    rfl
  | d :: ds, xs, h => by
    cases d with
    | str x =>
      obtain ⟨ys, h1, h2⟩ := bind1 (show (strsOf ds).bind (fun xs => some (x :: xs)) = some xs from h)
      cases h2
      rw [strsOf_some h1]
      rfl
    | _ => cases h
theorem strsOf_map : ∀ xs : List Str, strsOf (xs.map .str) = some xs
  | [] => rfl
  | x :: xs => by
    show (strsOf (xs.map .str)).bind (fun ys => some (x :: ys)) = _
    rw [strsOf_map xs]
    rfl
theorem dp_strs {K : PySem.W.Frag} {H : Hp} : ∀ {vs : List V} {xs : List Str}, DpAll K H vs (xs.map .str) → vs = xs.map V.str
  | _, [], .nil => rfl
  | _, x :: xs, .cons h r => by
    cases h
    rw [dp_strs r]
    rfl
theorem str_dps {K : PySem.W.Frag} {H : Hp} : ∀ (xs : List Str), DpAll K H (xs.map V.str) (xs.map .str)
  | [] => .nil
  | x :: xs => .cons (.str x) (str_dps xs)
def sizeT (l : List Str) : PyData := .int (l.length : Nat)
def risingT (l : List Str) : PyData := .list ((sortT l).map .str)
def mSetOf (f : List Str → PyData) (m : En → Option PyData) : En → Option PyData := fun env => (m env).bind fun d => match d with
  | .list ds => (strsOf ds).bind fun xs => if xs.length < 64 then some (f (upTo xs xs.length)) else none
  | _ => none
section
variable {ι : Type} {X : ι → Cx} {K : PySem.W.Frag} {N : List Str} {k : Nat} {M : List Nat} {e : Expr} {te : TE} {me : En → Option PyData} {p p2 q pos : Pos}
theorem snd_setOf {R : List Str → Hp → VK → Prop} {f : List Str → PyData} (h : SndQ K M te me) (hR : ∀ l H O (Q : VK), (∀ b ∈ O, ∃ o, H b = some o) → (∀ v H2, Ex H H2 → Dp K (cut H2 O) v (f l) → Q v H2) → R l H Q) : Snd K M (tSetOf K te R) (mSetOf f me) := fun H0 O0 O σ H env d s hm Q q => by
  obtain ⟨d1, g1, g2⟩ := bind1 hm
  refine h H0 O0 O σ H env d1 s g1 _ fun v H1 e1 hv => ?_
  split at g2
  · obtain ⟨xs, g3, g4⟩ := bind1 g2
    obtain ⟨few, rfl⟩ := ite_some g4
    have := strsOf_some g3
    subst this
    obtain ⟨b, vs, rfl, there, all⟩ := hv.list
    have := dp_strs all
    subst this
    exact ⟨b, xs, rfl, there, few, hR _ H1 O Q (s.ex e1).there fun v H2 e2 hd => q v H2 (e1.trans e2) hd⟩
  · cases g2
theorem d_lenT (F : Fam X K N k) (h : MQ X K M e te me) (hm : ∀ i, (X i).mg "len" = none) (hm2 : ∀ i, (X i).mg "set" = none) (hg : ∀ i, Gl (X i) "len" := by exact fun _ => rfl) (hg2 : ∀ i, Gl (X i) "set" := by exact fun _ => rfl)
    (star : ∀ i, starEach [e] (X i).env = (false, eval e (X i).env) :: starEach [] (X i).env := by exact fun _ => rfl) :
    MD X K M (.Call (.Name "len" p) [.Call (.Name "set" p2) [e] [] q] [] pos) (tSetOf K te rLenT) (mSetOf sizeT me) := ⟨fun i => by
  have := pe_lenT (X := X i) (p := p) (p2 := p2) (q := q) (pos := pos) (F.calm i) (hg i) (hm i) (hg2 i) (hm2 i) (h.pe i) (star i)
  rw [F.hK i] at this
  exact this, snd_setOf h.sd fun l H O Q _ goal => goal _ H (Ex.refl H) (.int _)⟩
theorem d_sortT (F : Fam X K N k) (h : MQ X K M e te me) (hm : ∀ i, (X i).mg "sorted" = none) (hm2 : ∀ i, (X i).mg "set" = none) (hg : ∀ i, Gl (X i) "sorted" := by exact fun _ => rfl) (hg2 : ∀ i, Gl (X i) "set" := by exact fun _ => rfl)
    (star : ∀ i, starEach [e] (X i).env = (false, eval e (X i).env) :: starEach [] (X i).env := by exact fun _ => rfl) :
    MD X K M (.Call (.Name "sorted" p) [.Call (.Name "set" p2) [e] [] q] [] pos) (tSetOf K te rSortT) (mSetOf risingT me) := ⟨fun i => by
  have := pe_sortT (X := X i) (p := p) (p2 := p2) (q := q) (pos := pos) (F.calm i) (F.u70 i) (hg i) (hm i) (hg2 i) (hm2 i) (h.pe i) (star i)
  rw [F.hK i] at this
  exact this, snd_setOf h.sd fun l H O Q ht goal b hb => goal _ _ (Ex.new hb) (new_list ht hb (str_dps _))⟩
end

end Rv
namespace Rv
open PySem L2 PySem.Spec PyProof.Rows
/-! The data layer, part H: dicts whose keys are tuples; a or b of own lists; len(set(xs)) of tuples of whole numbers. -/
/-! ### keys -/
def unKey : PyData → Option Key
  | .int i => some (.inl i)
  | .str x => some (.inr x)
  | _ => none
def keysOf : List PyData → Option (List Key)
  | [] => some []
  | d :: ds => (unKey d).bind fun a => (keysOf ds).bind fun r => some (a :: r)
def keyOf : PyData → Option (List Key)
  | .tuple ds => keysOf ds
  | _ => none
theorem unKey_some {d : PyData} {a : Key} (h : unKey d = some a) : d = keyD a := by
  cases d with
  | int i =>
    cases h
    rfl
  | str x =>
    cases h
    rfl
  | _ => cases h
theorem keysOf_some : ∀ {ds : List PyData} {key : List Key}, keysOf ds = some key → ds = key.map keyD
  | [], key, h => by
    cases h
    rfl
  | d :: ds, key, h => by
    obtain ⟨a, r, h1, h2, h3⟩ := bind2 (show ((unKey d).bind fun a => (keysOf ds).bind fun r => some (a :: r)) = some key from h)
    cases h3
    rw [unKey_some h1, keysOf_some h2]
    rfl
theorem unKey_of (a : Key) : unKey (keyD a) = some a := by
  cases a <;> rfl
theorem keysOf_map : ∀ key : List Key, keysOf (key.map keyD) = some key
  | [] => rfl
  | a :: r => by
    show ((unKey (keyD a)).bind fun a => (keysOf (r.map keyD)).bind fun r => some (a :: r)) = _
    rw [unKey_of, keysOf_map r]
    rfl
theorem keyOf_tup (key : List Key) : keyOf (.tuple (key.map keyD)) = some key := keysOf_map key
section
variable {K : PySem.W.Frag}
theorem dp_keys {H : Hp} : ∀ {vs : List V} {key : List Key}, DpAll K H vs (key.map keyD) → vs = key.map kV
  | _, [], h => by
    have h' : DpAll K H _ [] := h
    cases h'
    rfl
  | _, a :: r, h => by
    have h' : DpAll K H _ (keyD a :: r.map keyD) := h
    cases h' with
    | cons h1 h2 =>
      rw [dp_keys h2]
      cases a with
      | inl i =>
        cases h1
        rfl
      | inr x =>
        cases h1
        rfl
/-! ### the entries of a dict -/
def hasD (es : List (PyData × PyData)) (key : List Key) : Bool := es.any fun e => decide (keyOf e.1 = some key)
def putD (es : List (PyData × PyData)) (key : List Key) (d : PyData) : List (PyData × PyData) :=
  if hasD es key = true then es.map (fun e => if keyOf e.1 = some key then (e.1, d) else e) else es ++ [(.tuple (key.map keyD), d)]
theorem kvd_len {H : Hp} : ∀ {kvs : List (List Key × V)} {es : List (PyData × PyData)}, KvD K H kvs es → kvs.length = es.length
  | _, _, .nil => rfl
  | _, _, .cons _ r => by
    rw [List.length_cons, List.length_cons, kvd_len r]
theorem kvd_has {H : Hp} {key : List Key} : ∀ {kvs : List (List Key × V)} {es : List (PyData × PyData)}, KvD K H kvs es → (kvs.any fun kv => decide (kv.1 = key)) = hasD es key
  | _, _, .nil => rfl
  | _, _, .cons (key := k1) _ r => by
    unfold hasD
    rw [List.any_cons, List.any_cons, kvd_has r, keyOf_tup]
    by_cases z : k1 = key
    · rw [decide_eq_true z, decide_eq_true (by rw [z])]
      rfl
    · rw [decide_eq_false z, decide_eq_false fun q => z (Option.some.inj q)]
      rfl
theorem kvd_repl {H : Hp} {key : List Key} {v : V} {d : PyData} (hv : Dp K H v d) : ∀ {kvs : List (List Key × V)} {es : List (PyData × PyData)}, KvD K H kvs es → KvD K H (kvs.map fun kv => if kv.1 = key then (kv.1, v) else kv) (es.map fun e => if keyOf e.1 = some key then (e.1, d) else e)
  | _, _, .nil => .nil
  | _, _, .cons (key := k1) h r => by
    (rw [List.map_cons, List.map_cons])
    have ih := kvd_repl (key := key) hv r
    show KvD K H ((if k1 = key then _ else _) :: _) ((if keyOf (.tuple (k1.map keyD)) = some key then _ else _) :: _)
    rw [keyOf_tup]
    by_cases z : k1 = key
    · rw [if_pos z, if_pos (by rw [z])]
      exact .cons hv ih
    · rw [if_neg z, if_neg fun q => z (Option.some.inj q)]
      exact .cons h ih
theorem kvd_app {H : Hp} {key : List Key} {v : V} {d : PyData} (hv : Dp K H v d) : ∀ {kvs : List (List Key × V)} {es : List (PyData × PyData)}, KvD K H kvs es → KvD K H (kvs ++ [(key, v)]) (es ++ [(.tuple (key.map keyD), d)])
  | _, _, .nil => .cons hv .nil
  | _, _, .cons h r => .cons h (kvd_app hv r)
theorem kvd_put {H : Hp} {key : List Key} {v : V} {d : PyData} {kvs : List (List Key × V)} {es : List (PyData × PyData)} (hv : Dp K H v d) (h : KvD K H kvs es) : KvD K H (putK kvs key v) (putD es key d) := by
  unfold putK putD
  rw [kvd_has h]
  by_cases z : hasD es key = true
  · rw [if_pos z, if_pos z]
    exact kvd_repl hv h
  · rw [if_neg z, if_neg z]
    exact kvd_app hv h
theorem put_keys {kvs : List (List Key × V)} {key : List Key} {v : V} (h : (kvs.map Prod.fst).Nodup) : ((putK kvs key v).map Prod.fst).Nodup := by
  unfold putK
  split
  · rw [List.map_map]
    have e : (kvs.map (Prod.fst ∘ fun kv => if kv.1 = key then (kv.1, v) else kv)) = kvs.map Prod.fst := by
      refine List.map_congr_left fun kv _ => ?_
      show (if kv.1 = key then (kv.1, v) else kv).1 = kv.1
      split <;> rfl
    rw [e]
    exact h
  · rename_i z
    rw [List.map_append]
    refine List.nodup_append.mpr ⟨h, by simp, fun a ha b hb => ?_⟩
    have e : b = key := by simpa using hb
    subst e
    intro q
    subst q
    apply z
    obtain ⟨kv, hkv, e1⟩ := List.mem_map.mp ha
    exact List.any_eq_true.mpr ⟨kv, hkv, decide_eq_true e1⟩
theorem kvd_vals {H : Hp} : ∀ {kvs : List (List Key × V)} {es : List (PyData × PyData)}, KvD K H kvs es → DpAll K H (kvs.map Prod.snd) (es.map Prod.snd)
  | _, _, .nil => .nil
  | _, _, .cons h r => .cons h (kvd_vals r)
theorem val_at : ∀ {kvs : List (List Key × V)} {i : Nat} {key : List Key} {v : V}, (kvs.map Prod.fst).Nodup → kvs[i]? = some (key, v) → valV kvs key = some v
  | [], i, _, _, _, h => by simp at h
  | p :: r, 0, key, v, _, h => by
    have e : p = (key, v) := Option.some.inj ((List.getElem?_cons_zero ..).symm.trans h)
    rw [valV_pos (by rw [e]), e]
  | p :: r, i + 1, key, v, hn, h => by
    (rw [List.map_cons, List.nodup_cons] at hn)
    have h' : r[i]? = some (key, v) := by simpa using h
    have ne : ¬ p.1 = key := fun q => hn.1 (by
      rw [q]
      exact List.mem_map.mpr ⟨(key, v), List.mem_of_getElem? h', rfl⟩)
    rw [valV_neg ne]
    exact val_at hn.2 h'
end
section
variable {ι : Type} {X : ι → Cx} {K : PySem.W.Frag} {N : List Str} {k : Nat} {M : List Nat} {a b c e tg : Expr} {ta tb tc te : TE} {ma mb mc me : En → Option PyData} {pos : Pos}
/-! ### x = {} -/
theorem s_dnew (F : Fam X K N k) (i : Nat) {x : Str} {pos' p1 : Pos} (hi : i ∈ M := by decide) (hd : dictS M i = 1 := by decide) (hx : N[i]? = some x := by rfl) (hl : ∀ j, Loc (X j).env.scope x := by first | exact fun _ => Or.inl rfl | exact fun _ => Or.inr rfl) (hs : ∀ j, swapsWith (.Dict [] [] p1) (some (.Name x pos')) pos.line (X j).env = pure false := by exact fun _ => rfl)
    (hf : ∀ j, (X j).fn x = true ∨ (X j).env.scope.names.lookup x = some .local := by first | exact fun _ => .inl rfl | exact fun _ => .inr rfl) : MS X K M (.Assign [.Name x pos'] (.Dict [] [] p1) pos) (tAsg tDNewT (gName i)) (mAsg (mC (.dict [])) (gB i)) :=
  ⟨fun j => ps_set (by rw [F.hN j]; exact F.nd) (by rw [F.hN j]; exact hx) (hl j) pe_dnewT (hs j) (hf j), fun H0 O0 O σ H env fl D s hm q => by
    cases hm
    intro p hp
    have ds := hd
    refine q _ _ (p :: O) (s.ownG (H' := upd H p (.dT [])) hi hp (Ex.new hp) upd_same (by
      rw [ds]
      exact ⟨[], [], rfl, rfl, .nil, List.nodup_nil⟩)) ?_
    rw [cut_cons hp]
    exact Ex.refl _⟩
/-! ### x[tuple(e)] = v -/
def mPutT (i : Nat) (me mv : En → Option PyData) : En → Option Fl := fun env => (mv env).bind fun d => (mVar i env).bind fun l => (me env).bind fun a => match l, a with
  | .dict es, .list ks => (keysOf ks).bind fun key => if es.length < sizeLine then some (.nx (env.set i (some (.dict (putD es key d))))) else none
  | _, _ => none
theorem s_dput (F : Fam X K N k) (i : Nat) {x : Str} {p1 p2 p3 p4 : Pos} {value : Expr} {tv : TE} {mv : En → Option PyData} (hv : MD X K M value tv mv) (h : MQ X K M e te me)
    (hk : ∀ j, PE (X j) (.Call (.Name "tuple" p2) [e] [] p3) (tCB (rTupleA K) (tCons te tNil))) (hi : i ∈ M := by decide) (hd : dictS M i = 1 := by decide) (hp : ∀ j, PE (X j) (.Name x p1) (tVar i) := by exact fun _ => pv _)
    (hs : ∀ j, swapsWith value (some (.Subscript (.Name x p1) (.Call (.Name "tuple" p2) [e] [] p3) p4)) pos.line (X j).env = pure false := by exact fun _ => rfl) :
    MS X K M (.Assign [.Subscript (.Name x p1) (.Call (.Name "tuple" p2) [e] [] p3) p4] value pos) (sDPut (tVar i) (tCB (rTupleA K) (tCons te tNil)) tv) (mPutT i me mv) :=
  ⟨fun j => ps_dput (by have := F.u64 j; omega) (hp j) (hk j) (hv.pe j) (hs j), fun H0 O0 O σ H env fl D s hm q => by
    obtain ⟨d, g1, g2⟩ := bind1 hm
    obtain ⟨d1, d2, g3, g4, g5⟩ := bind2 g2
    obtain ⟨l, kvs, es, w1, w2, w3, rfl, w5, w6, w7⟩ := s.dct (join_some g3) hi hd
    refine hv.sd H0 O0 O σ H env d s g1 _ fun v H1 e1 hvd => ⟨_, w1, h.sd H0 O0 O σ H1 env d2 (s.ex e1) g4 _ fun u H2 e2 hu => ?_⟩
    have e12 := e1.trans e2
    split at g5
    · rename_i es' ks el
      cases el
      obtain ⟨key, hkey, g6⟩ := bind1 g5
      obtain ⟨hz, rfl⟩ := ite_some g6
      have := keysOf_some hkey
      subst this
      obtain ⟨b, xs, rfl, sq, ha⟩ := hu.list
      have := dp_keys ha
      subst this
      refine ⟨b, key.map kV, rfl, .inl ⟨sq, fun t ht => ?_⟩⟩
      have e3 := e12.trans (Ex.new (thing := .tup (key.map kV)) ht)
      have s3 := s.ex e3
      have hl3 : upd H2 t (.tup (key.map kV)) l = some (.dT kvs) := e3 _ _ w5
      refine ⟨l, _, rfl, DPut.t hl3 upd_same (by rw [kvd_len w6]; exact hz), ?_⟩
      have ds := hd
      refine q σ _ O (s3.writeG hi (join_some g3) w1 w2 w3 (by
        rw [ds]
        exact ⟨_, _, rfl, rfl, kvd_put (dp_ex (cut_mono (e2.trans (Ex.new ht))) hvd) (kvd_ex (cut_mono e3) w6), put_keys w7⟩)) ?_
      rw [cut_write w2]
      exact cut_mono e3
    · cases g5⟩
/-! ### [x[y] for y in x] -/
def mVals (i j : Nat) : En → Option PyData := fun env => (mVar i env).bind fun d => match d with
  | .dict es => if j < env.length ∧ es.length ≤ sizeLine then some (.list (es.map Prod.snd)) else none
  | _ => none
theorem d_dvals (F : Fam X K N k) (i j : Nat) {x y : Str} {p1 p2 p3 p4 p5 : Pos} {scope sc : Scope} (hsc : ∀ q, (X q).env.scope = sc) (ok : BlkOk N sc scope [(y, j)]) (hg : MG (blkF X scope) K M (.Name y p3) (gName j) (gB j))
    (hi : i ∈ M := by decide) (hd : dictS M i = 1 := by decide) (hij : i ≠ j := by decide) (hpx : ∀ q, PE (X q) (.Name x p4) (tVar i) := by exact fun _ => pv _) (hpx2 : ∀ q, PE (blkF X scope q) (.Name x p1) (tVar i) := by exact fun _ => pv _)
    (hpy : ∀ q, PE (blkF X scope q) (.Name y p2) (tVar j) := by exact fun _ => pv _) (hs : ∀ q z, foldedSetIterable (.Name x p4) (X q).env z = pure z := by exact fun _ _ => rfl) (hns : NoSl (.Name y p2) := by exact fun _ _ => rfl) :
    MD X K M (.ListComp (.Subscript (.Name x p1) (.Name y p2) p5) [⟨.Name y p3, .Name x p4, [], 0⟩] scope pos) (tLockE (tLc (iKeys (tVar i)) (gName j) tYes (tDGet (tVar i) (tVar j)) [j])) (mVals i j) :=
  ⟨fun q => pe_lock (pe_lc (own := [(y, j)]) (F.calm q) (by rw [F.hN q]; exact F.nd) (pi_keys (hpx q)) (by rw [F.hN q, hsc q]; exact ok) (fun s H C cl fp => hg.pg ⟨q, s, H, C, cl, fp⟩) (fun s H C cl fp => pts_nil) (fun s H C cl fp => pe_dget (Nat.lt_of_le_of_lt (Nat.add_le_add_left (show 1 ≤ 64 by decide) _) ((F.blk scope).u64 ⟨q, s, H, C, cl, fp⟩)) (hpx2 ⟨q, s, H, C, cl, fp⟩) (hpy ⟨q, s, H, C, cl, fp⟩) hns) (hs q)),
  fun H0 O0 O σ H env d s hm Q q => by
    obtain ⟨d1, g1, g2⟩ := bind1 hm
    obtain ⟨l, kvs, es, w1, w2, w3, rfl, w5, w6, w7⟩ := s.dct (join_some g1) hi hd
    obtain ⟨⟨hj, hz⟩, rfl⟩ := ite_some (show (if j < env.length ∧ es.length ≤ sizeLine then some (PyData.list (es.map Prod.snd)) else none) = some d from g2)
    have hjs : j < σ.length := by rw [s.len]; exact hj
    have wl : ∀ i2, i2 ≠ j → (wipe σ [j])[i2]? = σ[i2]? := fun i2 hn => by
      show (σ.set j none)[i2]? = _
      rw [List.getElem?_set_ne (fun z => hn z.symm)]
    refine ⟨l, .dT kvs, w5, True.intro, fun od => ⟨_, w1, l, od, rfl, .inr ⟨kvs, upd_same, fun D hD => ?_⟩⟩⟩
    have hDl : D ≠ l := fun z => by
      rw [z, upd_same] at hD
      cases hD
    have hDH : H D = none := by
      rw [upd_ne hDl] at hD
      exact hD
    have frzL : ∀ acc : HO, upd (upd H l (.frz od (.dT kvs))) D acc l = some (.frz od (.dT kvs)) := fun acc => by
      rw [upd_ne (fun z => hDl z.symm), upd_same]
    refine ⟨fun n m H' => n ≤ kvs.length ∧ m = kvs.length - n ∧ H' = upd (upd H l (.frz od (.dT kvs))) D (.lst ((kvs.take n).map Prod.snd)), ⟨kvs.length, Nat.zero_le _, rfl, rfl⟩, fun n m H' w => ?_⟩
    obtain ⟨hn, rfl, rfl⟩ := w
    by_cases hlt : n < kvs.length
    · refine .inr ⟨⟨frzL _, hlt⟩, fun H2 => H2 = upd (upd H l (.frz od (.dT kvs))) D (.lst ((kvs.take (n + 1)).map Prod.snd)), fun H2 e2 => ⟨kvs.length - (n + 1), by omega, by omega, rfl, e2⟩, fun z H2 hy => ?_⟩
      obtain ⟨rfl, key, v, qa, hk, rfl, hq⟩ := hy
      refine ⟨(wipe_set (vs := [j]) List.mem_cons_self).trans (wipe_wipe [j]), ?_⟩
      show ∃ _, _
      refine ⟨_, (by rw [List.getElem?_set_ne (fun z => hij z.symm), wl i hij]; exact w1), _, List.getElem?_set_self (by show j < (σ.set j none).length; rw [List.length_set]; exact hjs), l, v, rfl, .inr ⟨kvs, key, qa, .inr ⟨od, frzL _⟩, rfl, hq, (val_at w7 hk).symm⟩, ?_⟩
      refine ⟨_, upd_same, ?_, ?_⟩
      · have := kvd_len w6
        rw [List.length_map, List.length_take]
        omega
      · rw [upd_upd, List.take_add_one, hk, List.map_append]
        rfl
    · have e : n = kvs.length := by omega
      subst e
      refine .inl ⟨⟨frzL _, Nat.le_refl _⟩, frzL _, ?_⟩
      rw [List.take_length]
      have x2 : Ex H (upd (upd (upd H l (.frz od (.dT kvs))) D (.lst (kvs.map Prod.snd))) l (.dT kvs)) := fun p o hp => by
        by_cases z : p = l
        · subst z
          rw [upd_same]
          rw [w5] at hp
          exact hp
        · have zD : p ≠ D := fun y => by
            rw [y, hDH] at hp
            cases hp
          rw [upd_ne z, upd_ne zD, upd_ne z]
          exact hp
      refine q _ _ x2 (.lst (.inl (.inl ?_)) (dpAll_ex (cut_mono x2) (kvd_vals w6)))
      rw [cut_out (s.new hDH), upd_ne hDl, upd_same]⟩
/-! ### a or b, where b may be an own list -/
theorem q_one {op : BoolOp} (h : MQ X K M e te me) : MQ X K M (.BoolOp op [e] pos) te me := ⟨fun i => pe_one (h.pe i), h.sd⟩
theorem q_or (F : Fam X K N k) {rest : List Expr} (ha : MQ X K M a ta ma) (hb : MQ X K M (.BoolOp .Or (b :: rest) pos) tb mb) : MQ X K M (.BoolOp .Or (a :: b :: rest) pos) (tOrT K ta tb) (mOr ma mb) := ⟨fun i => by
  have := pe_orT (ha.pe i) (hb.pe i)
  rw [F.hK i] at this
  exact this, fun H0 O0 O σ H env d s hm Q q => by
  obtain ⟨d1, h1, h2⟩ := bind1 hm
  obtain ⟨c, h3, h4⟩ := bind1 h2
  refine ha.sd H0 O0 O σ H env d1 s h1 _ fun v H1 e1 hv => ⟨c, tru_dp hv.dp h3, ?_⟩
  cases c with
  | true =>
    rw [if_pos rfl] at h4 ⊢
    cases h4
    exact q v H1 e1 hv
  | false =>
    rw [if_neg Bool.false_ne_true] at h4 ⊢
    exact hb.sd H0 O0 O σ H1 env d (s.ex e1) h4 Q fun w H2 e2 hw => q w H2 (e1.trans e2) hw⟩
end
/-! ### len(set(xs)), xs tuples of whole numbers -/
def insU (x : List Int) (l : List (List Int)) : List (List Int) := if x ∈ l then l else x :: l
def onceU (xs : List (List Int)) : List (List Int) := xs.foldl (fun l x => insU x l) []
theorem onceU_go : ∀ (xs l : List (List Int)), l.Nodup → (xs.foldl (fun l x => insU x l) l).Nodup ∧ ∀ x, x ∈ xs.foldl (fun l x => insU x l) l ↔ x ∈ xs ∨ x ∈ l
  | [], l, h => ⟨h, fun x => by simp⟩
  | y :: xs, l, h => by
    have h1 : (insU y l).Nodup := by
      unfold insU
      split
      · exact h
      · rename_i z
        exact List.nodup_cons.mpr ⟨z, h⟩
    obtain ⟨n, m⟩ := onceU_go xs (insU y l) h1
    refine ⟨n, fun x => ?_⟩
    show x ∈ xs.foldl (fun l x => insU x l) (insU y l) ↔ _
    rw [m x]
    unfold insU
    split
    · rename_i z
      constructor
      · rintro (q | q)
        · exact .inl (List.mem_cons_of_mem _ q)
        · exact .inr q
      · rintro (q | q)
        · cases q with
          | head => exact .inr z
          | tail _ q => exact .inl q
        · exact .inr q
    · constructor
      · rintro (q | q)
        · exact .inl (List.mem_cons_of_mem _ q)
        · cases q with
          | head => exact .inl List.mem_cons_self
          | tail _ q => exact .inr q
      · rintro (q | q)
        · cases q with
          | head => exact .inr List.mem_cons_self
          | tail _ q => exact .inl q
        · exact .inr (List.mem_cons_of_mem _ q)
theorem onceU_nodup (xs : List (List Int)) : (onceU xs).Nodup := (onceU_go xs [] List.nodup_nil).1
theorem onceU_mem (xs : List (List Int)) (x : List Int) : x ∈ onceU xs ↔ x ∈ xs := by
  have h := (onceU_go xs [] List.nodup_nil).2 x
  unfold onceU
  rw [h]
  simp
theorem nodup_le {α : Type} [DecidableEq α] : ∀ {as bs : List α}, as.Nodup → (∀ a ∈ as, a ∈ bs) → as.length ≤ bs.length
  | [], _, _, _ => (Nat.zero_le _)
  | a :: as, bs, n, h => by
    have n1 := List.nodup_cons.mp n
    have ih := nodup_le (as := as) (bs := bs.erase a) n1.2 fun x hx => by
      have hne : x ≠ a := fun z => n1.1 (z ▸ hx)
      exact (List.mem_erase_of_ne hne).mpr (h x (List.mem_cons_of_mem _ hx))
    have e := List.length_erase_of_mem (h a List.mem_cons_self)
    have := List.length_pos_of_mem (h a List.mem_cons_self)
    rw [List.length_cons]
    omega
def tupsOf : List PyData → Option (List (List Int))
  | [] => some []
  | .tuple ds :: r => (intsOf ds).bind fun ns => (tupsOf r).bind fun rs => some (ns :: rs)
  | _ :: _ => none
theorem tupsOf_some : ∀ {ds : List PyData} {ks : List (List Int)}, tupsOf ds = some ks → ds = ks.map fun ns => .tuple (ns.map .int)
  | [], ks, h => by
    cases h
    rfl
  | d :: ds, ks, h => by
    cases d with
    | tuple xs =>
      obtain ⟨ns, rs, h1, h2, h3⟩ := bind2 (show ((intsOf xs).bind fun ns => (tupsOf ds).bind fun rs => some (ns :: rs)) = some ks from h)
      cases h3
      rw [tupsOf_some h2, intsOf_some h1]
      rfl
    | _ => cases h
theorem tupsOf_map : ∀ ks : List (List Int), tupsOf (ks.map fun ns => .tuple (ns.map .int)) = some ks
  | [] => rfl
  | ns :: ks => by
    show ((intsOf (ns.map .int)).bind fun ns => (tupsOf (ks.map fun ns => .tuple (ns.map .int))).bind fun rs => some (ns :: rs)) = _
    rw [intsOf_map, tupsOf_map ks]
    rfl
theorem dp_tups {K : PySem.W.Frag} {H : Hp} : ∀ {vs : List V} {ks : List (List Int)}, DpAll K H vs (ks.map fun ns => .tuple (ns.map .int)) → ∃ ps : List (Addr × List Int), vs = ps.map (fun p => V.ref p.1) ∧ ps.map Prod.snd = ks ∧ ∀ p ∈ ps, SqT K H p.1 (p.2.map V.int)
  | _, [], h => by
    have h' : DpAll K H _ [] := h
    cases h'
    exact ⟨[], rfl, rfl, fun _ z => nomatch z⟩
  | _, ns :: ks, h => by
    have h' : DpAll K H _ (.tuple (ns.map .int) :: ks.map fun ns => .tuple (ns.map .int)) := h
    cases h' with
    | cons h1 h2 =>
      obtain ⟨ps, e1, e2, e3⟩ := dp_tups h2
      cases h1 with
      | tup sq al =>
        have := dpAll_ints al
        subst this
        rename_i t
        refine ⟨(_, ns) :: ps, by rw [e1]; rfl, by rw [← e2]; rfl, fun p hp => ?_⟩
        cases hp with
        | head => exact sq
        | tail _ hp => exact e3 p hp
/-- set(xs), and how many there are -/
def tSetU (K : PySem.W.Frag) (ta : TE) : TE := fun σ H Q => ta σ H fun x H1 => ∃ (b : Addr) (ps : List (Addr × List Int)), x = .ref b ∧ SqL K H1 b (ps.map fun p => V.ref p.1) ∧ (∀ p ∈ ps, SqT K H1 p.1 (p.2.map V.int)) ∧ ps.length < 64 ∧ Q (.int ((onceU (ps.map Prod.snd)).length : Nat)) H1
section
variable {X : Cx} {e : Expr} {ta : TE} {p p2 q pos : Pos}
theorem pe_lenU (calm : X.calm = true) (hu : X.A.units + 70 < cLine) (hg : Gl X "len") (hm : X.mg "len" = none) (hg2 : Gl X "set") (hm2 : X.mg "set" = none) (ha : PE X e ta)
    (star : starEach [e] X.env = (false, eval e X.env) :: starEach [] X.env := by rfl) : PE X (.Call (.Name "len" p) [.Call (.Name "set" p2) [e] [] q] [] pos) (tSetU X.K ta) := by
  constructor
  intro pins st σ H Q inv wish
  refine Call_ (ld_blt inv hg hm boot_len ?_)
  refine callWith_builtin1 (args_cons (Call_ (ld_blt inv hg2 hm2 boot_set (callWith_type1 (args_cons (thn (ha.run pins st σ H _ inv wish) ?_) star) star rfl))) rfl) rfl rfl
  rintro v s1 ⟨x, H1, inv1, rel, b, ps, rfl, there, each, few, goal⟩
  cases rel
  obtain ⟨its, vals, plain, _⟩ := inv1.list there
  apply args_nil
  refine call_set_tups (P := X.prog) (w := X.w) ps (inv1.ok.hd calm) plain.isList (by simpa using refs_of_vals vals) (fun z hz => inv1.isT (each z hz)) few (by omega) fun h2 tk L es ep t R g stay => ?_
  have inv2 := inv1.kept (t' := tk) stay
  obtain ⟨o, at_, exact_, data⟩ := R.ob
  have size : es.size = L.length := by
    have h := (congrArg List.length R.rows)
    unfold rowsOf at h
    (rw [Array.length_toList, List.length_map] at h)
    exact h
  have same : L.length = (onceU (ps.map Prod.snd)).length := by
    have e1 : L.length = (L.map Prod.snd).length := by rw [List.length_map]
    rw [e1]
    refine Nat.le_antisymm (nodup_le R.nd fun z hz => ?_) (nodup_le (onceU_nodup _) fun z hz => ?_)
    · obtain ⟨w, hw, rfl⟩ := List.mem_map.mp hz
      exact (onceU_mem _ _).mpr (List.mem_map.mpr ⟨w, List.mem_of_mem_take (g.sub w hw), rfl⟩)
    · obtain ⟨w, hw, rfl⟩ := List.mem_map.mp ((onceU_mem _ _).mp hz)
      exact g.all w (by rw [List.take_length]; exact hw)
  apply args_nil
  have short := R.few
  refine call_len_set at_ exact_ data (SetTR.fits (s := { s1 with heap := h2, toks := tk }) R) (by omega) ⟨.int ((onceU (ps.map Prod.snd)).length : Nat), H1, inv2.tok _, ⟨_, by rw [size, same]⟩, goal⟩
end
def mLenU (m : En → Option PyData) : En → Option PyData := fun env => (m env).bind fun d => match d with
  | .list ds => (tupsOf ds).bind fun ks => if ks.length < 64 then some (.int ((onceU ks).length : Nat)) else none
  | _ => none
section
variable {ι : Type} {X : ι → Cx} {K : PySem.W.Frag} {N : List Str} {k : Nat} {M : List Nat} {e : Expr} {te : TE} {me : En → Option PyData} {p p2 q pos : Pos}
theorem d_lenU (F : Fam X K N k) (h : MQ X K M e te me) (hm : ∀ i, (X i).mg "len" = none) (hm2 : ∀ i, (X i).mg "set" = none) (hg : ∀ i, Gl (X i) "len" := by exact fun _ => rfl) (hg2 : ∀ i, Gl (X i) "set" := by exact fun _ => rfl)
    (star : ∀ i, starEach [e] (X i).env = (false, eval e (X i).env) :: starEach [] (X i).env := by exact fun _ => rfl) :
    MD X K M (.Call (.Name "len" p) [.Call (.Name "set" p2) [e] [] q] [] pos) (tSetU K te) (mLenU me) := ⟨fun i => by
  have := pe_lenU (X := X i) (p := p) (p2 := p2) (q := q) (pos := pos) (F.calm i) (F.u70 i) (hg i) (hm i) (hg2 i) (hm2 i) (h.pe i) (star i)
  rw [F.hK i] at this
  exact this, fun H0 O0 O σ H env d s hmm Q q => by
  obtain ⟨d1, g1, g2⟩ := bind1 hmm
  refine h.sd H0 O0 O σ H env d1 s g1 _ fun v H1 e1 hv => ?_
  split at g2
  · obtain ⟨ks, g3, g4⟩ := bind1 g2
    obtain ⟨few, rfl⟩ := ite_some g4
    have := tupsOf_some g3
    subst this
    obtain ⟨b, vs, rfl, there, all⟩ := hv.list
    obtain ⟨ps, rfl, rfl, each⟩ := dp_tups all
    exact ⟨b, ps, rfl, there, fun z hz => cut_ex.st (each z hz), by rw [List.length_map] at few; exact few, q _ H1 e1 (.int _)⟩
  · cases g2⟩
end

end Rv
namespace Rv
open PySem L2 PySem.Spec PyProof.Rows
/-! The data layer, part I: places that are never reached; dicts of the module; min, count; while, pop, extend; dicts by texts; replace. -/
section
variable {ι : Type} {X : ι → Cx} {K : PySem.W.Frag} {N : List Str} {k : Nat} {M : List Nat} {a b c e tg : Expr} {ta tb tc te : TE} {ma mb mc me : En → Option PyData} {pos : Pos}
/-! ### what is never reached -/
theorem d_dead : MD X K M e (fun _ _ _ => False) (fun _ => none) := ⟨fun _ => ⟨fun _ _ _ _ _ _ h => h.elim⟩, fun _ _ _ _ _ _ _ _ hm => nomatch hm⟩
theorem s_dead {st : Stmt} : MS X K M st (fun _ _ _ => False) (fun _ => none) := ⟨fun _ => ⟨fun _ _ _ _ _ _ h => h.elim⟩, fun _ _ _ _ _ _ _ _ _ hm => nomatch hm⟩
end
/-! ### dicts of the module -/
def tabAt (tab : List (Str × PyData)) (z : Str) : Option PyData := (tab.find? fun e => decide (e.1 = z)).map Prod.snd
inductive EntD (K : PySem.W.Frag) : List DictEntry → List (Str × PyData) → Prop
  | nil : EntD K [] []
  | cons {h : Int} {x : Str} {t : Tok} {u : Value} {v : V} {d : PyData} {es : List DictEntry} {tab : List (Str × PyData)} : RelV v u → (∀ H, Dp K H v d) → EntD K es tab → EntD K (⟨h, .str x t, u⟩ :: es) ((x, d) :: tab)
section
variable {K : PySem.W.Frag}
theorem ent_find (z : Str) : ∀ {l : List DictEntry} {tab : List (Str × PyData)}, EntD K l tab → (tabAt tab z = none → l.find? (·.key.isStr z) = none) ∧ ∀ p, tabAt tab z = some p → ∃ en v, l.find? (·.key.isStr z) = some en ∧ RelV v en.val ∧ ∀ H, Dp K H v p
  | _, _, .nil => ⟨fun _ => rfl, fun p h => nomatch h⟩
  | _, _, @EntD.cons _ h x t u v d es tab rl dp r => by
    have ih := ent_find z r
    by_cases q : x = z
    · have e1 : tabAt ((x, d) :: tab) z = some d := by
        unfold tabAt
        rw [List.find?_cons]
        simp [q]
      have e2 : ((⟨h, .str x t, u⟩ : DictEntry) :: es).find? (·.key.isStr z) = some ⟨h, .str x t, u⟩ := by
        rw [List.find?_cons]
        show (match (x == z) with | true => _ | false => _) = _
        rw [beq_iff_eq.mpr q]
      rw [e1, e2]
      refine ⟨fun w => (nomatch w), fun p w => ?_⟩
      cases w
      exact ⟨_, v, rfl, rl, dp⟩
    · have e1 : tabAt ((x, d) :: tab) z = tabAt tab z := by
        unfold tabAt
        rw [List.find?_cons]
        simp [q]
      have e2 : ((⟨h, .str x t, u⟩ : DictEntry) :: es).find? (·.key.isStr z) = es.find? (·.key.isStr z) := by
        rw [List.find?_cons]
        show (match (x == z) with | true => _ | false => _) = _
        rw [beq_eq_false_iff_ne.mpr q]
      rw [e1, e2]
      exact ih
theorem ent_ref : ∀ {l : List DictEntry} {tab : List (Str × PyData)}, EntD K l tab → l.any (·.refKey) = false
  | _, _, .nil => rfl
  | _, _, .cons _ _ r => by
    rw [List.any_cons, ent_ref r]
    rfl
theorem ns_none {d : Addr} {es : Array DictEntry} {n : Nat} {tab : List (Str × PyData)} {z : Str} (hl : K.lookup d = some ⟨.type "dict", none, .dict es n, #[]⟩) (h : EntD K es.toList tab) (hz : tabAt tab z = none) : PySem.W.nsIn K d z = some none := by
  unfold PySem.W.nsIn
  rw [hl]
  dsimp only
  rw [(ent_find z h).1 hz, ent_ref h]
  rfl
theorem ns_some {d : Addr} {es : Array DictEntry} {n : Nat} {tab : List (Str × PyData)} {z : Str} {p : PyData} (hl : K.lookup d = some ⟨.type "dict", none, .dict es n, #[]⟩) (h : EntD K es.toList tab) (hz : tabAt tab z = some p) : ∃ u v, PySem.W.nsIn K d z = some (some u) ∧ RelV v u ∧ ∀ H, Dp K H v p := by
  obtain ⟨en, v, e1, e2, e3⟩ := (ent_find z h).2 p hz
  refine ⟨en.val, v, ?_, e2, e3⟩
  unfold PySem.W.nsIn
  rw [hl]
  dsimp only
  rw [e1]
/-- a dict of the module, by its table -/
def KDt (K : PySem.W.Frag) (w : World) (d : Addr) (tab : List (Str × PyData)) : Prop := ∃ es n, KDict K w d es n ∧ EntD K es.toList tab
theorem kd_none {X : Cx} {d : Addr} {es : Array DictEntry} {n : Nat} (D : KDict X.K X.w d es n) : OpR X (compareOp .In) (fun x y H Q => x = .non ∧ y = .ref d ∧ Q (.bl false) H) := by
  (intro pins s σ H x y v u Q I rx ry h)
  obtain ⟨rfl, rfl, q⟩ := h
  obtain rfl : v = Value.none := rx
  obtain rfl : u = Value.ref d := ry
  have mp : s.heap.MapOf (noneKind X.prog X.w) d (fun key => findBy (noneKind X.prog X.w).is es key) := ⟨_, es, n, I.kIn _ _ D.at_, ⟨rfl, rfl, rfl⟩, rfl, fun en he => by
    obtain ⟨x, t, e1, e2⟩ := D.lit.all en (Array.mem_toList_iff.mpr he)
    refine ⟨some (.inr x), ?_, e2⟩
    rw [e1]
    show keyIs (.inr x) (.str x t) = true
    exact kV_is (P := X.prog) (w := X.w) (k := .inr x) (u := .str x t) ⟨t, rfl⟩, fun _ => rfl⟩
  refine wpAny_in_of (show (noneKind X.prog X.w).is none .none = true from rfl) D.low mp ?_
  have nothing : findBy (noneKind X.prog X.w).is es none = none := by
    have q : (es.find? fun en => nkIs none en.key) = none := by
      rw [Array.find?_eq_none]
      intro en he hq
      obtain ⟨x, t, e1, _⟩ := D.lit.all en (Array.mem_toList_iff.mpr he)
      rw [e1] at hq
      cases hq
    show (es.find? fun en => nkIs none en.key).map (·.val) = none
    rw [q]
    rfl
  rw [nothing]
  exact ⟨.bl false, H, I.tok _, rfl, q⟩
def rInK (K : PySem.W.Frag) (d : Addr) : R2 := fun x y H Q => (∃ (z : Str) (r : Option Value), x = .str z ∧ y = .ref d ∧ PySem.W.nsIn K d z = some r ∧ Q (.bl r.isSome) H) ∨ (x = .non ∧ y = .ref d ∧ Q (.bl false) H)
theorem op_inK {X : Cx} {w : World} {d : Addr} {es : Array DictEntry} {n : Nat} (hK : X.K = K) (hw : X.w = w) (D : KDict K w d es n) : OpR X (compareOp .In) (rInK K d) := by
  subst hK
  subst hw
  exact OpR.or (op_in_kd D) (kd_none D)
theorem ix_K {X : Cx} {w : World} (hK : X.K = K) (hw : X.w = w) : IxR X (rIxD K w) := by
  subst hK
  subst hw
  exact ix_kdict
end
def inTab (tab : List (Str × PyData)) : PyData → Option PyData
  | .str z => some (.bool (tabAt tab z).isSome)
  | .none => some (.bool false)
  | _ => none
def getTab (tab : List (Str × PyData)) : PyData → Option PyData
  | .str z => tabAt tab z
  | _ => none
section
variable {ι : Type} {X : ι → Cx} {K : PySem.W.Frag} {N : List Str} {k : Nat} {M : List Nat} {a b c e tg : Expr} {ta tb tc te : TE} {ma mb mc me : En → Option PyData} {pos : Pos}
theorem d_inK {w : World} {d : Addr} {tab : List (Str × PyData)} (F : Fam X K N k) (kd : KDt K w d tab) (ha : MD X K M a ta ma) (hp : ∀ i, PE (X i) b (tC (.ref d))) (hw : ∀ i, (X i).w = w := by exact fun _ => rfl) (hm : behindInMarks .In b = false := by first | exact nomark _ | rfl) :
    MD X K M (.Compare a [.In] [b] pos) (tOp (rInK K d) ta (tC (.ref d))) (mUn (inTab tab) ma) := by
  obtain ⟨es, n, D, en⟩ := kd
  refine ⟨fun i => pe_cmpR (op_inK (F.hK i) (hw i) D) (ha.pe i) (hp i) hm, fun H0 O0 O σ H env r s hmm Q q => ?_⟩
  obtain ⟨d1, h1, h2⟩ := bind1 hmm
  refine ha.sd H0 O0 O σ H env d1 s h1 _ fun v H1 e1 hv => ?_
  show rInK K d v (.ref d) H1 Q
  cases d1 with
  | str z =>
    have ev : v = .str z := by
      cases hv
      rfl
    subst ev
    cases h2
    cases hz : tabAt tab z with
    | none =>
      rw [hz] at q
      exact .inl ⟨z, none, rfl, rfl, ns_none D.at_ en hz, q _ H1 e1 (.bl _)⟩
    | some p =>
      rw [hz] at q
      obtain ⟨u, v, n1, _, _⟩ := ns_some D.at_ en hz
      exact .inl ⟨z, some u, rfl, rfl, n1, q _ H1 e1 (.bl _)⟩
  | none =>
    have ev : v = .non := by
      cases hv
      rfl
    subst ev
    cases h2
    exact .inr ⟨rfl, rfl, q _ H1 e1 (.bl _)⟩
  | _ => cases h2
theorem d_getK {w : World} {d : Addr} {tab : List (Str × PyData)} (F : Fam X K N k) (kd : KDt K w d tab) (ha : MD X K M a ta ma) (hp : ∀ i, PE (X i) b (tC (.ref d))) (hw : ∀ i, (X i).w = w := by exact fun _ => rfl) (hx : PlainIx a := by exact fun _ _ => rfl) :
    MD X K M (.Subscript b a pos) (tOp (rIxD K w) (tC (.ref d)) ta) (mUn (getTab tab) ma) := by
  obtain ⟨es, n, D, en⟩ := kd
  refine ⟨fun i => pe_ix (ix_K (F.hK i) (hw i)) (hp i) (ha.pe i) hx, fun H0 O0 O σ H env r s hmm Q q => ?_⟩
  obtain ⟨d1, h1, h2⟩ := bind1 hmm
  show ta σ H fun y H2 => rIxD K w (.ref d) y H2 Q
  refine ha.sd H0 O0 O σ H env d1 s h1 _ fun v H1 e1 hv => ?_
  cases d1 with
  | str z =>
    have ev : v = .str z := by
      cases hv
      rfl
    subst ev
    obtain ⟨u, v, n1, n2, n3⟩ := ns_some D.at_ en (show tabAt tab z = some r from h2)
    exact ⟨d, z, v, rfl, rfl, ⟨es, n, u, D.at_, D.lit, n1, n2⟩, q _ H1 e1 (n3 _)⟩
  | _ => cases h2
/-! ### min of a list, count -/
def leastI : List Int → Int
  | [] => 0
  | [n] => n
  | n :: m :: r => min n (leastI (m :: r))
theorem leastI_ok : ∀ {ns : List Int}, ns ≠ [] → leastI ns ∈ ns ∧ ∀ y ∈ ns, leastI ns ≤ y
  | [], h => absurd rfl h
  | [n], _ => ⟨List.mem_cons_self, fun y hy => by rw [List.mem_singleton.mp hy]; exact Int.le_refl _⟩
  | n :: m :: r, _ => by
    have ih := leastI_ok (ns := m :: r) (by simp)
    show min n (leastI (m :: r)) ∈ _ ∧ ∀ y ∈ _, min n (leastI (m :: r)) ≤ y
    by_cases z : n ≤ leastI (m :: r)
    · rw [Int.min_eq_left z]
      refine ⟨List.mem_cons_self, fun y hy => ?_⟩
      cases hy with
      | head => exact Int.le_refl _
      | tail _ hy => exact Int.le_trans z (ih.2 y hy)
    · rw [Int.min_eq_right (by omega)]
      refine ⟨List.mem_cons_of_mem _ ih.1, fun y hy => ?_⟩
      cases hy with
      | head => omega
      | tail _ hy => exact ih.2 y hy
def bMinL : List PyData → Option PyData
  | [.list ds] => (intsOf ds).bind fun ns => if ns ≠ [] then some (.int (leastI ns)) else none
  | _ => none
theorem cr_minL {X : Cx} (hK : X.K = K) (calm : X.calm = true) : CallR X (.builtin "min") (rMin K) := by
  subst hK
  exact cr_min calm
theorem crd_minL : CrD K (rMin K) bMinL := fun H O vs ds d ht h hf Q q => by
  unfold bMinL at hf
  split at hf
  · obtain ⟨v, rfl, h1⟩ := dq1 h
    obtain ⟨l, xs, rfl, s1, a1⟩ := h1.list
    obtain ⟨ns, g1, g2⟩ := bind1 hf
    obtain ⟨ne, rfl⟩ := ite_some g2
    have := intsOf_some g1
    subst this
    have := dpAll_ints a1
    subst this
    have lo := leastI_ok ne
    refine ⟨l, ns, rfl, s1, List.length_pos_iff.mpr ne, fun m hm hle => ?_⟩
    have e : m = leastI ns := Int.le_antisymm (hle _ lo.1) (lo.2 m hm)
    rw [e]
    exact q _ H (Ex.refl H) (.int _)
  · cases hf
def mCount (ma mb : En → Option PyData) : En → Option PyData := fun env => (ma env).bind fun x => (mb env).bind fun y => match x, y with
  | .str x, .str y => some (.int (Txt.count x y))
  | _, _ => none
theorem d_count {p1 : Pos} (ha : MD X K M a ta ma) (hb : MD X K M b tb mb) (hs : ∀ i, starEach [b] (X i).env = [(false, eval b (X i).env)] := by exact fun _ => rfl) (hbase : ∀ i, attributeBase a "count" (X i).env (eval a (X i).env) = eval a (X i).env := by exact fun _ => rfl) (hline : (p1.endLine == pos.line) = true := by rfl) :
    MD X K M (.Call (.Attribute a "count" p1) [b] [] pos) (tM1 (fun x xs H Q => ∃ a b, x = .str a ∧ xs = [.str b] ∧ Q (.int (Txt.count a b)) H) ta tb) (mCount ma mb) := ⟨fun i => pe_m1 PySem.F.slot_str_count PySem.F.type_str_count mt_count (ha.pe i) (hb.pe i) (hs i) (hbase i) hline, fun H0 O0 O σ H env d s hmm Q q => by
  obtain ⟨x, y, h1, h2, h3⟩ := bind2 hmm
  refine ha.sd H0 O0 O σ H env x s h1 _ fun v H1 e1 hv => ?_
  cases hv with
  | str x =>
    refine ⟨⟨_, rfl⟩, hb.sd H0 O0 O σ H1 env y (s.ex e1) h2 _ fun w H2 e2 hw => ?_⟩
    cases hw with
    | str y =>
      cases h3
      exact ⟨x, y, rfl, rfl, q _ _ (e1.trans e2) (.int _)⟩
    | _ => cases h3
  | _ => cases h3⟩
/-! ### while -/
def whileD (mt : En → Option Bool) (body : En → Option Fl) : Nat → En → Option Fl
  | 0, _ => none
  | n + 1, env => (mt env).bind fun b => if b = true then (body env).bind fun f => match f with
      | .nx e => whileD mt body n e
      | .ct e => whileD mt body n e
      | .bk e => some (.nx e)
      | .rt r => some (.rt r)
    else some (.nx env)
theorem s_while (fuel : Nat) {body : List Stmt} {t : TT} {mt : En → Option Bool} {tb : TS} {m : En → Option Fl} (hp : ∀ i, PassesOwn (model (X i).prog (X i).w) (X i).A (X i).env (X i).xe) (hc : MT X K M c t mt) (hb : MSs X K M body tb m) :
    MS X K M (.While c body [] pos) (tWhile t tb) (whileD mt m fuel) := ⟨fun i => ps_while (hp i) (hc.pt i) (hb.ps i), fun H0 O0 O σ H env fl D s hm q => by
  refine ⟨fun n σ' H' => ∃ O' env', Sl K M H0 O0 O' σ' H' env' ∧ Ex (cut H O) (cut H' O') ∧ whileD mt m n env' = some fl, ⟨fuel, O, env, s, Ex.refl _, hm⟩, fun n σ' H' w => ?_⟩
  obtain ⟨O', env', s', x', l'⟩ := w
  cases n with
  | zero => cases l'
  | succ n =>
    obtain ⟨b, g1, g2⟩ := bind1 (show ((mt env').bind _) = some fl from l')
    refine hc.sd H0 O0 O' σ' H' env' b s' g1 _ fun H1 e1 => ?_
    have xx : Ex (cut H O) (cut H1 O') := x'.trans (cut_mono e1)
    cases b with
    | false =>
      rw [if_neg (show ¬ false = true from Bool.false_ne_true)] at g2 ⊢
      cases g2
      exact q σ' H1 O' (s'.ex e1) xx
    | true =>
      rw [if_pos rfl] at g2 ⊢
      obtain ⟨f, z3, z4⟩ := bind1 g2
      refine ⟨fun σ2 H2 => ∃ O2 env2, Sl K M H0 O0 O2 σ2 H2 env2 ∧ Ex (cut H O) (cut H2 O2) ∧ whileD mt m n env2 = some fl, fun σ2 H2 p => ⟨n, Nat.lt_succ_self n, p⟩, ?_⟩
      refine hb.sd H0 O0 O' σ' H1 env' f _ (s'.ex e1) z3 ?_
      cases f with
      | nx e => exact fun σ3 H3 O3 s3 x3 => ⟨O3, e, s3, xx.trans x3, z4⟩
      | ct e => exact fun σ3 H3 O3 s3 x3 => ⟨O3, e, s3, xx.trans x3, z4⟩
      | bk e =>
        cases z4
        exact fun σ3 H3 O3 s3 x3 => q σ3 H3 O3 s3 (xx.trans x3)
      | rt r =>
        cases z4
        exact q⟩
/-! ### x.pop() into a target; x.extend(a new list) -/
def mPop (i : Nat) (bind : PyData → En → Option En) : En → Option Fl := fun env => (mVar i env).bind fun l => match l with
  | .list ds => (ds[ds.length - 1]?).bind fun d => (bind d (env.set i (some (.list ds.dropLast)))).bind fun e => some (.nx e)
  | _ => none
theorem dpAll_last {H : Hp} : ∀ {vs : List V} {ds : List PyData}, DpAll K H vs ds → DpAll K H vs.dropLast ds.dropLast
  | _, _, .nil => .nil
  | _, _, .cons _ .nil => .nil
  | _, _, .cons h (.cons h2 r) => .cons h (dpAll_last (.cons h2 r))
theorem s_pop (F : Fam X K N k) (i : Nat) {x : Str} {p1 p2 p3 : Pos} {g : TG} {bind : PyData → En → Option En} (hg : MG X K M tg g bind)
    (hp : ∀ j, PE (X j) (.Call (.Attribute (.Name x p1) "pop" p2) [] [] p3) (tBM0 (X j).K "list" rPop (tVar i))) (hi : i ∈ M := by decide) (hd : dictS M i = 0 := by decide)
    (hs : ∀ j, swapsWithSole [tg] (.Call (.Attribute (.Name x p1) "pop" p2) [] [] p3) pos.line (X j).env = pure false := by exact fun _ => rfl) (hw : ∀ j, swappedStores [tg] (.Call (.Attribute (.Name x p1) "pop" p2) [] [] p3) (X j).env = pure none := by exact fun _ => rfl)
    (h1 : ∀ j, (assignEach [tg] (X j).env).map (·.2) = [assign tg (X j).env] := by exact fun _ => rfl) :
    MS X K M (.Assign [tg] (.Call (.Attribute (.Name x p1) "pop" p2) [] [] p3) pos) (tAsg (tBM0 K "list" rPop (tVar i)) g) (mPop i bind) := ⟨fun j => ps_asg (by
    have := hp j
    rw [F.hK j] at this
    exact this) (hg.pg j) (hs j) (hw j) (h1 j), fun H0 O0 O σ H env fl D s hm q => by
  obtain ⟨d1, g1, g2⟩ := bind1 hm
  obtain ⟨l, xs, ds, w1, w2, w3, rfl, w5, w6⟩ := s.lst (join_some g1) hi hd
  obtain ⟨d, g3, g4⟩ := bind1 (show ((ds[ds.length - 1]?).bind _) = some fl from g2)
  obtain ⟨env', g5, g6⟩ := bind1 g4
  cases g6
  obtain ⟨v, v1, v2⟩ := dpAll_get' w6 g3
  refine ⟨_, w1, .inl ⟨rfl, xs, .inl (.inl w5)⟩, l, xs, v, rfl, rfl, w5, by rw [dpAll_len w6]; exact v1, ?_⟩
  have s2 := s.write hi hd (join_some g1) w1 w2 w3 (dpAll_last w6)
  refine hg.sd H0 O0 O σ _ _ d env' v s2 (by rw [cut_write w2]; exact v2) g5 _ fun σ' s' => q σ' _ O s' ?_
  rw [cut_write w2]
  exact Ex.refl _⟩
def mExt (i : Nat) (m : En → Option PyData) : En → Option Fl := fun env => (mVar i env).bind fun l => (m env).bind fun d => match l, d with
  | .list ds, .list es => if ds.length + es.length ≤ sizeLine then some (.nx (env.set i (some (.list (ds ++ es))))) else none
  | _, _ => none
theorem s_ext (F : Fam X K N k) (i : Nat) {x : Str} {p1 p2 p3 : Pos} (h : MF X K M e te me)
    (hp : ∀ j, PS (X j) (.Expr (.Call (.Attribute (.Name x p1) "extend" p2) [e] [] p3) pos) (tDrop (tBM (X j).K "list" rExtend (tVar i) (tCons te tNil)))) (hi : i ∈ M := by decide) (hd : dictS M i = 0 := by decide) :
    MS X K M (.Expr (.Call (.Attribute (.Name x p1) "extend" p2) [e] [] p3) pos) (tDrop (tBM K "list" rExtend (tVar i) (tCons te tNil))) (mExt i me) := ⟨fun j => by
    have := hp j
    rw [F.hK j] at this
    exact this, fun H0 O0 O σ H env fl D s hm q => by
    obtain ⟨d1, d2, g1, g2, g3⟩ := bind2 hm
    obtain ⟨l, xs, ds, h1, h2, h3, rfl, h5, h6⟩ := s.lst (join_some g1) hi hd
    refine ⟨_, h1, .inl ⟨rfl, xs, .inl (.inl h5)⟩, h.sd H0 O0 O σ H env d2 s g2 _ fun p ys es H1 hp e1 hde hl ha => ?_⟩
    subst hde
    obtain ⟨hz, e⟩ := ite_some (show (if ds.length + es.length ≤ sizeLine then some (Fl.nx (env.set i (some (.list (ds ++ es))))) else none) = some fl from g3)
    subst e
    have s1 := s.ex e1
    refine ⟨l, p, xs, ys, rfl, rfl, e1 _ _ h5, hl, by rw [dpAll_len h6, dpAll_len ha]; exact hz, ?_⟩
    have np : p ∉ O := s.new hp
    have less : Ex (cut H1 (p :: O)) (cut H1 O) := cut_less fun a h => List.mem_cons_of_mem _ h
    refine q σ _ O (s1.write hi hd (join_some g1) h1 h2 h3 (dpAll_app (dpAll_ex (cut_mono e1) h6) (dpAll_ex less ha))) ?_
    rw [cut_write h2]
    exact cut_mono e1⟩
end

end Rv
namespace Rv
open PySem L2 PySem.Spec PyProof.Rows
/-! The data layer, part J: comprehensions as new lists; dicts by texts; replace, where a token is out. -/
section
variable {ι : Type} {X : ι → Cx} {K : PySem.W.Frag} {N : List Str} {k : Nat} {M : List Nat} {a b c e tg : Expr} {ta tb tc te : TE} {ma mb mc me : En → Option PyData} {pos : Pos}
theorem sndF_lc {vs : List Nat} {wi : TI} {mi : En → Option (List PyData)} {g : TG} {bind : PyData → En → Option En} {tt : TT} {mt : En → Option Bool}
    (hi : ∀ H0 O0 O σ H env ds, Sl K M H0 O0 O σ H env → mi env = some ds → ∀ R : It → Hp → Prop, (∀ J H2, Ex H H2 → Wk K O J H2 ds true → R J H2) → wi σ H R)
    (hg : SndG K M g bind) (hk : ∀ x σ H (Q : L2.St → Hp → Prop), g x (wipe σ vs) H Q → g x (wipe σ vs) H fun σ2 H2 => wipe σ2 vs = wipe σ vs ∧ Q σ2 H2) (ht : SndT K M tt mt) (he : Snd K M te me) : SndF K M (tLc wi g tt te vs) (mLc vs mi bind mt me) := fun H0 O0 O σ H env d s hm Q q => by
  obtain ⟨ds, h1, h2⟩ := bind1 hm
  obtain ⟨r, h3, h4⟩ := bind1 h2
  obtain ⟨hz, e⟩ := ite_some h4
  subst e
  refine hi H0 O0 O σ H env ds s h1 _ fun J H1 e1 wk D hD => ?_
  have s1 := s.ex e1
  have nD : D ∉ O := s1.new hD
  -- the slots over a heap with the new list, owned
  have up : ∀ H', Ex (cut H1 O) (cut H' (D :: O)) → (∀ l ∈ O, ∀ o, H1 l = some o → H' l = some o) → (∃ acc, H' D = some (.lst acc)) → Sl K M H0 O0 (D :: O) (wipe σ vs) H' (wipeD env vs) := fun H' x1 x2 x3 => by
    have xx : Ex H1 H' := fun a o q => by
      by_cases z : a ∈ O
      · exact x2 a z o q
      · exact cut_ex _ _ (x1 a o (by rw [cut_out z]; exact q))
    have s2 := (Sl.wiped (s1.ex xx) vs)
    refine ⟨s2.ext, fun l h => ?_, fun l h => List.mem_cons_of_mem _ (s2.sub l h), fun l h => ?_, fun i d' h n => ?_, fun i d' h n => ?_, s2.inj, s2.len⟩
    · rcases List.mem_cons.mp h with z | z
      · subst z
        exact .inr (s1.ext.free hD)
      · exact s2.fresh l z
    · rcases List.mem_cons.mp h with z | z
      · subst z
        obtain ⟨acc, q⟩ := x3
        exact ⟨_, q⟩
      · exact s2.there l z
    · obtain ⟨v, g1, g2⟩ := (Sl.wiped s1 vs).sh i d' h n
      exact ⟨v, g1, dp_ex x1 g2⟩
    · obtain ⟨l, o, g1, g2, g3, g5, g6⟩ := (Sl.wiped s1 vs).ow i d' h n
      exact ⟨l, o, g1, List.mem_cons_of_mem _ g2, g3, x2 l g2 _ g5, g6.ex x1⟩
  refine ⟨fun i m H' => i ≤ ds.length ∧ m = ds.length - i ∧ Ex (cut H1 O) (cut H' (D :: O)) ∧ (∀ l ∈ O, ∀ o, H1 l = some o → H' l = some o) ∧ ∃ acc rs rest, H' D = some (.lst acc) ∧ DpAll K (cut H' (D :: O)) acc rs ∧ lcD bind mt me (wipeD env vs) (ds.drop i) = some rest ∧ rs ++ rest = r,
    ⟨ds.length, Nat.zero_le _, rfl, ?_, ?_, [], [], r, upd_same, .nil, h3, rfl⟩, fun i m H' w => ?_⟩
  · rw [cut_cons hD]
    exact Ex.refl _
  · intro l hl o ho
    rw [upd_ne fun (z : l = D) => by rw [z, hD] at ho; cases ho]
    exact ho
  · obtain ⟨hil, rfl, x1, x2, acc, rs, rest, y1, y2, y3, y4⟩ := w
    have s3 := up H' x1 x2 ⟨acc, y1⟩
    have xx : Ex H1 H' := fun a o q => by
      by_cases z : a ∈ O
      · exact x2 a z o q
      · exact cut_ex _ _ (x1 a o (by rw [cut_out z]; exact q))
    have hw := wk H' (D :: O) x1 s3.there (fun _ l hl o ho => x2 l hl o ho) i
    by_cases hlt : i < ds.length
    · have hdi : ds[i]? = some ds[i] := List.getElem?_eq_getElem hlt
      obtain ⟨go, yl⟩ := hw.1 _ hdi
      rw [List.drop_eq_getElem_cons hlt] at y3
      obtain ⟨env1, b, z1, z2, z3⟩ := lcD_cons y3
      refine .inr ⟨go, fun H2 => i + 1 ≤ ds.length ∧ Ex (cut H1 O) (cut H2 (D :: O)) ∧ (∀ l ∈ O, ∀ o, H1 l = some o → H2 l = some o) ∧ ∃ acc rs rest, H2 D = some (.lst acc) ∧ DpAll K (cut H2 (D :: O)) acc rs ∧ lcD bind mt me (wipeD env vs) (ds.drop (i + 1)) = some rest ∧ rs ++ rest = r, fun H2 p => ⟨ds.length - (i + 1), by omega, p.1, rfl, p.2⟩, fun x H2 hy => ?_⟩
      obtain ⟨e2, hx⟩ := yl x H2 hy
      refine hk x σ H2 _ ?_
      refine hg H0 O0 (D :: O) (wipe σ vs) H2 (wipeD env vs) ds[i] env1 x (s3.ex e2) hx z1 _ fun σ2 s4 => ?_
      refine ht H0 O0 (D :: O) σ2 H2 env1 b s4 z2 _ fun H3 e3 => ?_
      have s5 := s4.ex e3
      have e23 := e2.trans e3
      have accLen : acc.length < sizeLine ∨ b = false := by
        rcases z3 with ⟨_, x', r', _, z5, z6⟩ | ⟨z4, _⟩
        · left
          have l1 := dpAll_len y2
          have l2 : (rs ++ rest).length = r.length := by rw [y4]
          rw [List.length_append, z6, List.length_cons] at l2
          omega
        · exact .inr z4
      rcases z3 with ⟨z4, x', r', z5, z6, z7⟩ | ⟨z4, z5⟩
      · subst z4
        rw [if_pos rfl]
        refine he H0 O0 (D :: O) σ2 H3 env1 x' s5 z5 _ fun y H4 e4 hy4 => ?_
        have e24 := e23.trans e4
        have hD4 : H4 D = some (.lst acc) := e24 _ _ y1
        have ec : cut (upd H4 D (.lst (acc ++ [y]))) (D :: O) = cut H4 (D :: O) := cut_write List.mem_cons_self
        refine ⟨acc, hD4, accLen.resolve_right (fun z => by cases z), by omega, ?_, fun l hl o ho => ?_, acc ++ [y], rs ++ [x'], r', upd_same, ?_, z6, by rw [List.append_assoc]; rw [z7] at y4; exact y4⟩
        · rw [ec]
          exact x1.trans (cut_mono e24)
        · rw [upd_ne fun (z : l = D) => nD (by rw [← z]; exact hl)]
          exact e24 _ _ (x2 l hl o ho)
        · rw [ec]
          exact dpAll_app (dpAll_ex (cut_mono e24) y2) (.cons hy4 .nil)
      · subst z4
        rw [if_neg (show ¬ false = true from Bool.false_ne_true)]
        exact ⟨by omega, x1.trans (cut_mono e23), fun l hl o ho => e23 _ _ (x2 l hl o ho), acc, rs, rest, e23 _ _ y1, dpAll_ex (cut_mono e23) y2, z5, y4⟩
    · have hle : ds.length ≤ i := by omega
      rw [List.drop_of_length_le hle] at y3
      cases y3
      rw [List.append_nil] at y4
      subst y4
      exact .inl ⟨hw.2 (by omega), q D acc rs H' (e1.free hD) (e1.trans xx) rfl y1 y2⟩
theorem f_lc (F : Fam X K N k) {iter : Expr} {ifs : List Expr} {scope sc : Scope} (own : List (Str × Nat)) {wi : TI} {mi : En → Option (List PyData)} {g : TG} {bind : PyData → En → Option En} {tt : TT} {mt : En → Option Bool}
    (hi : MI X K M tg iter wi mi true) (hsc : ∀ i, (X i).env.scope = sc) (ok : BlkOk N sc scope own) (hg : MG (blkF X scope) K M tg g bind) (hk : GK (own.map (·.2)) g) (ht : MTs (blkF X scope) K M ifs tt mt) (he : MD (blkF X scope) K M e te me) (hs : ∀ i x, foldedSetIterable iter (X i).env x = pure x := by exact fun _ _ => rfl) :
    MF X K M (.ListComp e [⟨tg, iter, ifs, 0⟩] scope pos) (tLc wi g tt te (own.map (·.2))) (mLc (own.map (·.2)) mi bind mt me) :=
  ⟨(d_lc (pos := pos) F own hi hsc ok hg hk ht he hs).pe, sndF_lc hi.sd hg.sd (fun x σ H Q q => by
      have z := hk x (wipe σ (own.map (·.2))) H Q q
      rw [wipe_wipe] at z
      exact z) ht.sd he.sd⟩
/-! ### dicts by texts -/
def hasK (es : List (PyData × PyData)) (key : Key) : Bool := es.any fun e => decide (unKey e.1 = some key)
def putDK (es : List (PyData × PyData)) (key : Key) (d : PyData) : List (PyData × PyData) :=
  if hasK es key = true then es.map (fun e => if unKey e.1 = some key then (e.1, d) else e) else es ++ [(keyD key, d)]
def valK (es : List (PyData × PyData)) (key : Key) : Option PyData := (es.find? fun e => decide (unKey e.1 = some key)).map Prod.snd
theorem kvk_len {H : Hp} : ∀ {kvs : List (Key × V)} {es : List (PyData × PyData)}, KvK K H kvs es → kvs.length = es.length
  | _, _, .nil => rfl
  | _, _, .cons _ r => by
    rw [List.length_cons, List.length_cons, kvk_len r]
theorem unKey_iff {k1 key : Key} : unKey (keyD k1) = some key ↔ k1 = key := by
  rw [unKey_of]
  exact ⟨fun q => Option.some.inj q, fun q => by rw [q]⟩
theorem kvk_has {H : Hp} {key : Key} : ∀ {kvs : List (Key × V)} {es : List (PyData × PyData)}, KvK K H kvs es → (kvs.any fun kv => decide (kv.1 = key)) = hasK es key
  | _, _, .nil => rfl
  | _, _, .cons (key := k1) _ r => by
    unfold hasK
    rw [List.any_cons, List.any_cons, kvk_has r]
    have e : decide (k1 = key) = decide (unKey (keyD k1) = some key) := decide_eq_decide.mpr unKey_iff.symm
    show (decide (k1 = key) || _) = (decide (unKey (keyD k1) = some key) || _)
    rw [e]
    rfl
theorem kvk_repl {H : Hp} {key : Key} {v : V} {d : PyData} (hv : Dp K H v d) : ∀ {kvs : List (Key × V)} {es : List (PyData × PyData)}, KvK K H kvs es → KvK K H (kvs.map fun kv => if kv.1 = key then (kv.1, v) else kv) (es.map fun e => if unKey e.1 = some key then (e.1, d) else e)
  | _, _, .nil => .nil
  | _, _, .cons (key := k1) h r => by
    have ih := kvk_repl (key := key) hv r
    show KvK K H ((if k1 = key then _ else _) :: _) ((if unKey (keyD k1) = some key then _ else _) :: _)
    by_cases z : k1 = key
    · rw [if_pos z, if_pos (unKey_iff.mpr z)]
      exact .cons hv ih
    · rw [if_neg z, if_neg fun q => z (unKey_iff.mp q)]
      exact .cons h ih
theorem kvk_app {H : Hp} {key : Key} {v : V} {d : PyData} (hv : Dp K H v d) : ∀ {kvs : List (Key × V)} {es : List (PyData × PyData)}, KvK K H kvs es → KvK K H (kvs ++ [(key, v)]) (es ++ [(keyD key, d)])
  | _, _, .nil => .cons hv .nil
  | _, _, .cons h r => .cons h (kvk_app hv r)
theorem kvk_put {H : Hp} {key : Key} {v : V} {d : PyData} {kvs : List (Key × V)} {es : List (PyData × PyData)} (hv : Dp K H v d) (h : KvK K H kvs es) : KvK K H (putK kvs key v) (putDK es key d) := by
  unfold putK putDK
  rw [kvk_has h]
  by_cases z : hasK es key = true
  · rw [if_pos z, if_pos z]
    exact kvk_repl hv h
  · rw [if_neg z, if_neg z]
    exact kvk_app hv h
theorem kvk_val {H : Hp} {key : Key} : ∀ {kvs : List (Key × V)} {es : List (PyData × PyData)}, KvK K H kvs es → (valK es key = none → valV kvs key = none) ∧ ∀ d, valK es key = some d → ∃ v, valV kvs key = some v ∧ Dp K H v d
  | _, _, .nil => ⟨fun _ => rfl, fun d h => nomatch h⟩
  | _, _, @KvK.cons _ _ k1 v d kvs es h r => by
    have ih := kvk_val (key := key) r
    by_cases z : k1 = key
    · have e1 : valK ((keyD k1, d) :: es) key = some d := by
        unfold valK
        rw [List.find?_cons]
        have y : decide (unKey (keyD k1) = some key) = true := decide_eq_true (unKey_iff.mpr z)
        show (match decide (unKey (keyD k1) = some key) with | true => some (keyD k1, d) | false => _).map Prod.snd = _
        rw [y]
        rfl
      rw [e1, valV_pos z]
      refine ⟨fun w => (nomatch w), fun p w => ?_⟩
      cases w
      exact ⟨v, rfl, h⟩
    · have e1 : valK ((keyD k1, d) :: es) key = valK es key := by
        unfold valK
        rw [List.find?_cons]
        have y : decide (unKey (keyD k1) = some key) = false := decide_eq_false fun q => z (unKey_iff.mp q)
        show (match decide (unKey (keyD k1) = some key) with | true => some (keyD k1, d) | false => es.find? fun e => decide (unKey e.1 = some key)).map Prod.snd = _
        rw [y]
      rw [e1, valV_neg z]
      exact ih
theorem valV_has {kvs : List (Key × V)} {es : List (PyData × PyData)} {H : Hp} {key : Key} (h : KvK K H kvs es) : (valV kvs key).isSome = hasK es key := by
  rw [← kvk_has h, valV_any]
/-- an address that is owned besides -/
theorem Sl.more {H0 H : Hp} {O0 O : List Addr} {σ : L2.St} {env : En} (s : Sl K M H0 O0 O σ H env) {p : Addr} {o : HO} (hp : H p = none) : Sl K M H0 O0 (p :: O) σ (upd H p o) env := by
  have xx : Ex H (upd H p o) := Ex.new hp
  have s2 := s.ex xx
  have ec : cut (upd H p o) (p :: O) = cut H O := cut_cons hp
  refine ⟨s2.ext, fun l h => ?_, fun l h => List.mem_cons_of_mem _ (s2.sub l h), fun l h => ?_, fun i d h n => ?_, fun i d h n => ?_, s2.inj, s2.len⟩
  · rcases List.mem_cons.mp h with z | z
    · subst z
      exact .inr (s.ext.free hp)
    · exact s2.fresh l z
  · rcases List.mem_cons.mp h with z | z
    · subst z
      exact ⟨_, upd_same⟩
    · exact s2.there l z
  · obtain ⟨v, g1, g2⟩ := s.sh i d h n
    exact ⟨v, g1, by rw [ec]; exact g2⟩
  · obtain ⟨l, o', g1, g2, g3, g5, g6⟩ := s.ow i d h n
    exact ⟨l, o', g1, List.mem_cons_of_mem _ g2, g3, xx _ _ g5, by rw [ec]; exact g6⟩
inductive PrD (K : PySem.W.Frag) (H : Hp) : List (V × V) → List (Str × PyData) → Prop
  | nil : PrD K H [] []
  | cons {x : Str} {v : V} {d : PyData} {ps : List (V × V)} {r : List (Str × PyData)} : Dp K H v d → PrD K H ps r → PrD K H ((.str x, v) :: ps) ((x, d) :: r)
structure MP {ι : Type} (X : ι → Cx) (K : PySem.W.Frag) (M : List Nat) (pos : Pos) (keys : List (Option Expr)) (values : List Expr) (trs : List (TE × TE)) (m : En → Option (List (Str × PyData))) : Prop where
  pp : ∀ i, PPs (X i) pos keys values trs
  sd : ∀ H0 O0 O σ H env r, Sl K M H0 O0 O σ H env → m env = some r → ∀ Q : List (V × V) → Hp → Prop, (∀ ps H2, Ex H H2 → PrD K (cut H2 O) ps r → Q ps H2) → tPairs trs σ H Q
def mP0 : En → Option (List (Str × PyData)) := fun _ => some []
def mP1 (x : Str) (m : En → Option PyData) (r : En → Option (List (Str × PyData))) : En → Option (List (Str × PyData)) := fun env => (m env).bind fun d => (r env).bind fun ps => some ((x, d) :: ps)
theorem p_nil : MP X K M pos [] [] [] mP0 := ⟨fun _ => pps_nil, fun H0 O0 O σ H env r s hm Q q => by
  cases hm
  exact q [] H (Ex.refl H) .nil⟩
theorem prd_ex {H H' : Hp} (x : Ex H H') : ∀ {ps : List (V × V)} {r : List (Str × PyData)}, PrD K H ps r → PrD K H' ps r
  | _, _, .nil => .nil
  | _, _, .cons h r => .cons (dp_ex x h) (prd_ex x r)
theorem p_cons {x : Str} {j : Nat} {p1 : Pos} {ks : List (Option Expr)} {vs : List Expr} {trs : List (TE × TE)} {mr : En → Option (List (Str × PyData))} (h : MD X K M e te me) (hr : MP X K M pos ks vs trs mr) :
    MP X K M pos (some (.Constant (.str x) j p1) :: ks) (e :: vs) ((tC (.str x), te) :: trs) (mP1 x me mr) := ⟨fun i => pps_cons pe_str (h.pe i) (hr.pp i), fun H0 O0 O σ H env r s hm Q q => by
  obtain ⟨d, ps, h1, h2, h3⟩ := bind2 hm
  cases h3
  show te σ H fun y H2 => tPairs trs σ H2 fun ps H3 => Q ((.str x, y) :: ps) H3
  refine h.sd H0 O0 O σ H env d s h1 _ fun v H1 e1 hv => ?_
  exact hr.sd H0 O0 O σ H1 env ps (s.ex e1) h2 _ fun ps2 H2 e2 hps => q _ H2 (e1.trans e2) (.cons (dp_ex (cut_mono e2) hv) hps)⟩
def mergeD (r : List (Str × PyData)) : List (PyData × PyData) := r.foldl (fun es p => putDK es (.inr p.1) p.2) []
theorem kvk_merge {H : Hp} : ∀ {ps : List (V × V)} {r : List (Str × PyData)}, PrD K H ps r → ∃ kvs : List (Key × V), ps = kvs.map (fun kv => (kV kv.1, kv.2)) ∧ kvs.length = r.length ∧ ∀ (kv0 : List (Key × V)) (es0 : List (PyData × PyData)), KvK K H kv0 es0 → KvK K H (mergeK kv0 kvs) (r.foldl (fun es p => putDK es (.inr p.1) p.2) es0)
  | _, _, .nil => ⟨[], rfl, rfl, fun _ _ h => h⟩
  | _, _, @PrD.cons _ _ x v d ps r hv h => by
    obtain ⟨kvs, e1, e2, e3⟩ := kvk_merge h
    refine ⟨(.inr x, v) :: kvs, by rw [e1]; rfl, by rw [List.length_cons, List.length_cons, e2], fun kv0 es0 h0 => ?_⟩
    exact e3 _ _ (kvk_put hv h0)
def mDisp (i : Nat) (m : En → Option (List (Str × PyData))) : En → Option Fl := fun env => (m env).bind fun r => if r.length ≤ 15 then some (.nx (env.set i (some (.dict (mergeD r))))) else none
/-- x = {..}, keys written texts -/
theorem s_disp (F : Fam X K N k) (i : Nat) {x : Str} {pos' p1 : Pos} {ke : Expr} {ks : List (Option Expr)} {vs : List Expr} {trs : List (TE × TE)} {m : En → Option (List (Str × PyData))} (h : MP X K M p1 (some ke :: ks) vs trs m) (hall : (some ke :: ks).all (·.isSome) = true := by rfl) (hlen : (some ke :: ks).length = vs.length := by rfl) (h15 : (some ke :: ks).length ≤ 15 := by decide)
    (hi : i ∈ M := by decide) (hd : dictS M i = 2 := by decide) (hx : N[i]? = some x := by rfl) (hl : ∀ j, Loc (X j).env.scope x := by first | exact fun _ => Or.inl rfl | exact fun _ => Or.inr rfl) (hs : ∀ j, swapsWith (.Dict (some ke :: ks) vs p1) (some (.Name x pos')) pos.line (X j).env = pure false := by exact fun _ => rfl)
    (hf : ∀ j, (X j).fn x = true ∨ (X j).env.scope.names.lookup x = some .local := by first | exact fun _ => .inl rfl | exact fun _ => .inr rfl) : MS X K M (.Assign [.Name x pos'] (.Dict (some ke :: ks) vs p1) pos) (tAsg (tDisp trs) (gName i)) (mDisp i m) :=
  ⟨fun j => ps_set (by rw [F.hN j]; exact F.nd) (by rw [F.hN j]; exact hx) (hl j) (pe_disp (h.pp j) hall hlen (fun z => nomatch z) h15) (hs j) (hf j), fun H0 O0 O σ H env fl D s hm q => by
    obtain ⟨r, g1, g2⟩ := bind1 hm
    obtain ⟨small, rfl⟩ := ite_some g2
    intro p hp
    refine h.sd H0 O0 (p :: O) σ _ env r (s.more (o := .dK []) hp) g1 _ fun ps H2 e2 hps => ?_
    obtain ⟨kvs, e1, e3, e4⟩ := kvk_merge hps
    refine ⟨e2 _ _ upd_same, kvs, e1, by rw [e3]; exact small, ?_⟩
    have hx2 : Ex H (upd H2 p (.dK (mergeK [] kvs))) := fun b o hb => by
      have ne : b ≠ p := fun z => by
        rw [z, hp] at hb
        cases hb
      rw [upd_ne ne]
      exact e2 _ _ (by rw [upd_ne ne]; exact hb)
    have cw : cut (upd H2 p (.dK (mergeK [] kvs))) (p :: O) = cut H2 (p :: O) := cut_write List.mem_cons_self
    refine q _ _ (p :: O) (s.ownG (H' := upd H2 p (.dK (mergeK [] kvs))) hi hp hx2 upd_same (by
      rw [hd, cw]
      exact ⟨_, _, rfl, rfl, e4 [] [] .nil⟩)) ?_
    rw [cw]
    have ec : cut (upd H p (.dK [])) (p :: O) = cut H O := cut_cons hp
    rw [← ec]
    exact cut_mono e2⟩
/-- x[k] = v -/
def mPutK (i : Nat) (mk mv : En → Option PyData) : En → Option Fl := fun env => (mv env).bind fun d => (mVar i env).bind fun l => (mk env).bind fun a => match l with
  | .dict es => (unKey a).bind fun key => if es.length < sizeLine then some (.nx (env.set i (some (.dict (putDK es key d))))) else none
  | _ => none
theorem dp_key {H : Hp} {v : V} {d : PyData} {key : Key} (h : Dp K H v d) (e : unKey d = some key) : v = kV key := by
  have := unKey_some e
  subst this
  cases key with
  | inl i =>
    cases h
    rfl
  | inr x =>
    cases h
    rfl
theorem s_putK (F : Fam X K N k) (i : Nat) {x : Str} {p1 p4 : Pos} {value : Expr} {tv : TE} {mv : En → Option PyData} (hv : MD X K M value tv mv) (h : MD X K M e te me)
    (hi : i ∈ M := by decide) (hd : dictS M i = 2 := by decide) (hp : ∀ j, PE (X j) (.Name x p1) (tVar i) := by exact fun _ => pv _)
    (hs : ∀ j, swapsWith value (some (.Subscript (.Name x p1) e p4)) pos.line (X j).env = pure false := by exact fun _ => rfl) :
    MS X K M (.Assign [.Subscript (.Name x p1) e p4] value pos) (sDPut (tVar i) te tv) (mPutK i me mv) :=
  ⟨fun j => ps_dput (by have := F.u64 j; omega) (hp j) (h.pe j) (hv.pe j) (hs j), fun H0 O0 O σ H env fl D s hm q => by
    obtain ⟨d, g1, g2⟩ := bind1 hm
    obtain ⟨d1, d2, g3, g4, g5⟩ := bind2 g2
    obtain ⟨l, kvs, es, w1, w2, w3, rfl, w5, w6⟩ := s.dkt (join_some g3) hi hd
    obtain ⟨key, g6, g7⟩ := bind1 (show ((unKey d2).bind _) = some fl from g5)
    obtain ⟨hz, rfl⟩ := ite_some g7
    refine hv.sd H0 O0 O σ H env d s g1 _ fun v H1 e1 hvd => ⟨_, w1, h.sd H0 O0 O σ H1 env d2 (s.ex e1) g4 _ fun u H2 e2 hu => ?_⟩
    have e12 := e1.trans e2
    have := dp_key hu g6
    subst this
    refine ⟨l, _, rfl, DPut.k (e12 _ _ w5) (by rw [kvk_len w6]; exact hz), ?_⟩
    refine q σ _ O ((s.ex e12).writeG hi (join_some g3) w1 w2 w3 (by
      rw [hd]
      exact ⟨_, _, rfl, rfl, kvk_put (dp_ex (cut_mono e2) hvd) (kvk_ex (cut_mono e12) w6)⟩)) ?_
    rw [cut_write w2]
    exact cut_mono e12⟩
/-- k not in x, k in x: tests -/
def rInO (neg : Bool) : R2 := fun x y H Q => ∃ a o, y = .ref a ∧ DGet H a x o ∧ Q (.bl (o.isSome != neg)) H
theorem op_notInO {X : Cx} (hu : X.A.units + 1 < cLine) : OpR X (compareOp .NotIn) (rInO true) := fun pins st σ H x y v u Q inv rx ry h => by
  obtain ⟨a, o, rfl, g, q⟩ := h
  (obtain rfl : u = Value.ref a := ry)
  refine d_notIn hu inv g rx fun s' I' => ⟨.bl (!o.isSome), H, I', rfl, ?_⟩
  have e : (o.isSome != true) = !o.isSome := by cases o.isSome <;> rfl
  rw [e] at q
  exact q
def mInO (neg : Bool) (i : Nat) (ma : En → Option PyData) : En → Option Bool := fun env => (ma env).bind fun a => (mVar i env).bind fun l => match l with
  | .dict es => (unKey a).bind fun key => some (hasK es key != neg)
  | _ => none
theorem t_notInO (F : Fam X K N k) (i : Nat) {x : Str} {p1 : Pos} (ha : MD X K M a ta ma) (hi : i ∈ M := by decide) (hd : dictS M i = 2 := by decide) (hp : ∀ j, PE (X j) (.Name x p1) (tVar i) := by exact fun _ => pv _) (hm : behindInMarks .NotIn (.Name x p1) = false := by first | exact nomark _ | rfl) :
    MT X K M (.Compare a [.NotIn] [.Name x p1] pos) (tTest (tOp (rInO true) ta (tVar i))) (mInO true i ma) := ⟨fun j => pt_cmpR (op_notInO (by have := F.u64 j; omega)) (ha.pe j) (hp j) hm, fun H0 O0 O σ H env b s hmm Q q => by
  obtain ⟨d1, d2, g1, g2, g3⟩ := bind2 hmm
  obtain ⟨l, kvs, es, w1, w2, w3, rfl, w5, w6⟩ := s.dkt (join_some g2) hi hd
  obtain ⟨key, g4, g5⟩ := bind1 (show ((unKey d1).bind _) = some b from g3)
  cases g5
  refine ha.sd H0 O0 O σ H env d1 s g1 _ fun v H1 e1 hv => ⟨_, w1, l, valV kvs key, rfl, ?_, _, rfl, ?_⟩
  · have := dp_key hv g4
    subst this
    exact DGet.k (e1 _ _ w5)
  · rw [valV_has w6]
    exact q H1 e1⟩
/-- x[k] -/
def mGetO (i : Nat) (mb : En → Option PyData) : En → Option PyData := fun env => (mVar i env).bind fun l => (mb env).bind fun a => match l with
  | .dict es => (unKey a).bind fun key => valK es key
  | _ => none
theorem d_getO (F : Fam X K N k) (i : Nat) {x : Str} {p1 : Pos} (hb : MD X K M b tb mb) (hi : i ∈ M := by decide) (hd : dictS M i = 2 := by decide) (hp : ∀ j, PE (X j) (.Name x p1) (tVar i) := by exact fun _ => pv _) (hns : NoSl b := by exact fun _ _ => rfl) :
    MD X K M (.Subscript (.Name x p1) b pos) (tDGet (tVar i) tb) (mGetO i mb) := ⟨fun j => pe_dget (by have := F.u64 j; omega) (hp j) (hb.pe j) hns, fun H0 O0 O σ H env d s hmm Q q => by
  obtain ⟨d1, d2, g1, g2, g3⟩ := bind2 hmm
  obtain ⟨l, kvs, es, w1, w2, w3, rfl, w5, w6⟩ := s.dkt (join_some g1) hi hd
  obtain ⟨key, g4, g5⟩ := bind1 (show ((unKey d2).bind _) = some d from g3)
  refine ⟨_, w1, hb.sd H0 O0 O σ H env d2 s g2 _ fun v H1 e1 hv => ?_⟩
  have := dp_key hv g4
  subst this
  obtain ⟨v, v1, v2⟩ := (kvk_val (key := key) w6).2 d g5
  refine ⟨l, v, rfl, ?_, q _ H1 e1 (dp_ex (cut_mono e1) v2)⟩
  have := DGet.k (H := H1) (k := key) (e1 _ _ w5)
  rw [v1] at this
  exact this⟩
/-! ### where a token is out -/
structure MDt {ι : Type} (X : ι → Cx) (K : PySem.W.Frag) (M : List Nat) (e : Expr) (t : TE) (m : En → Option PyData) : Prop where
  pe : ∀ i, PET (X i) e t
  sd : Snd K M t m
structure MAt {ι : Type} (X : ι → Cx) (K : PySem.W.Frag) (M : List Nat) (es : List Expr) (t : TA) (m : En → Option (List PyData)) : Prop where
  pa : ∀ i, PAT (X i) es t
  sd : SndA K M t m
structure MSt {ι : Type} (X : ι → Cx) (K : PySem.W.Frag) (M : List Nat) (st : Stmt) (t : TS) (m : En → Option Fl) : Prop where
  ps : ∀ i, PST (X i) st t
  sd : SndS K M t m
structure MSst {ι : Type} (X : ι → Cx) (K : PySem.W.Frag) (M : List Nat) (sts : List Stmt) (t : TS) (m : En → Option Fl) : Prop where
  ps : ∀ i, PSsT (X i) sts t
  sd : SndS K M t m
theorem dt_of (h : MD X K M e te me) : MDt X K M e te me := ⟨fun i pins s σ H Q _ I q => (h.pe i).run pins s σ H Q I q, h.sd⟩
theorem at_nil : MAt X K M [] tNil mNil := ⟨fun _ => pat_nil, a_nil (X := X).sd⟩
theorem at_cons {es : List Expr} {tr : TA} {mr : En → Option (List PyData)} (h : MDt X K M e te me) (hr : MAt X K M es tr mr) (hs : ∀ i, starEach (e :: es) (X i).env = (false, eval e (X i).env) :: starEach es (X i).env := by exact fun _ => rfl) : MAt X K M (e :: es) (tCons te tr) (mCons me mr) :=
  ⟨fun i => pat_cons (h.pe i) (hr.pa i) (hs i), fun H0 O0 O σ H env ds s hm Q q => by
    obtain ⟨d, r, h1, h2, h3⟩ := bind2 hm
    cases h3
    refine h.sd H0 O0 O σ H env d s h1 _ fun x H1 e1 hx => ?_
    exact hr.sd H0 O0 O σ H1 env r (s.ex e1) h2 _ fun xs H2 e2 hxs => q _ H2 (e1.trans e2) (.cons (dp_ex (cut_mono e2) hx) hxs)⟩
def mRepl (y z : Str) (m : En → Option PyData) : En → Option PyData := fun env => (m env).bind fun d => match d with
  | .str x => if x.length + (x.length + 1) * z.length ≤ 16777216 then some (.str (Txt.replace x y z)) else none
  | _ => none
theorem dt_repl {y z : Str} {j j2 : Nat} {c0 c1 p1 : Pos} (h : MD X K M a ta ma) (hyz : (y == z) = false := by decide)
    (hst : ∀ i, starEach [.Constant (.str y) j c0, .Constant (.str z) j2 c1] (X i).env = [(false, eval (.Constant (.str y) j c0) (X i).env), (false, eval (.Constant (.str z) j2 c1) (X i).env)] := by exact fun _ => rfl)
    (hbase : ∀ i, attributeBase a "replace" (X i).env (eval a (X i).env) = eval a (X i).env := by exact fun _ => rfl) (hline : (p1.endLine == pos.line) = true := by rfl) :
    MDt X K M (.Call (.Attribute a "replace" p1) [.Constant (.str y) j c0, .Constant (.str z) j2 c1] [] pos) (CwR.tReplC ta y z) (mRepl y z ma) := ⟨fun i => CwR.pet_replC (h.pe i) hyz (hst i) (hbase i) hline, fun H0 O0 O σ H env d s hm Q q => by
  obtain ⟨d1, h1, h2⟩ := bind1 hm
  refine h.sd H0 O0 O σ H env d1 s h1 _ fun v H1 e1 hv => ?_
  cases hv with
  | str x =>
    obtain ⟨hz, rfl⟩ := ite_some h2
    exact ⟨x, rfl, hz, q _ H1 e1 (.str _)⟩
  | _ => cases h2⟩
theorem dt_call {j : Nat} {f : Addr} {fd : FuncData} {ps : List Str} {x : Str} {p : Pos} {es : List Expr} {fn : List PyData → Option PyData} {t : TA} {ms : En → Option (List PyData)} (G : ∀ i, FnOk (X i).prog (X i).w (X i).K (X i).mg (X i).base CX0 j f fd ps (spD K ps.length fn)) (hr : ∀ i, Room j (X i).A)
    (hm : ∀ i, (X i).mg x = some (.ref f)) (hk : ∀ i, PySem.W.keepIn (X i).K (.ref f) = true) (hb : ∀ i, Binds (X i).K fd ps []) (h : MAt X K M (e :: es) t ms) (hl : ∀ env ds, ms env = some ds → ds.length = ps.length)
    (hg : ∀ i, Gl (X i) x := by exact fun _ => rfl) (hdb : (x == ("__debug__" : Str)) = false := by decide) (he : ∀ i, starEach (e :: es) (X i).env = (false, eval e (X i).env) :: starEach es (X i).env := by exact fun _ => rfl) (hpl : ∀ i, (backTo pos (starEach es (X i).env)).any (·.1) = false := by exact fun _ => rfl) :
    MDt X K M (.Call (.Name x p) (e :: es) [] pos) (tCall (spD K ps.length fn) [] E0 t) (mCB fn ms) :=
  ⟨fun i pins s σ H Q h0 I q => wpAny_Call_Name_kw (ld_glob I (hg i) (hm i) (PySem.W.callWith_K (h₀ := (X i).base) I.ok.mod.kin (hk i) (thn (h.pa i pos pins s σ H _ h0 I q) fun us s1 got => by
    obtain ⟨vs, H1, I1, r, q1⟩ := got
    exact ⟨I1.kIn, run_fn (G i) (hr i) (hb i) .nil pass0 I1 r q1⟩) (he i) (hpl i)) hdb), fun H0 O0 O σ H env d s hmm Q q => by
    obtain ⟨ds, h1, h2⟩ := bind1 hmm
    refine h.sd H0 O0 O σ H env ds s h1 _ fun vs H1 e1 hv => ?_
    refine ⟨ds, d, O, by rw [List.append_nil, dpAll_len hv]; exact hl env ds h1, (s.ex e1).there, by rw [List.append_nil]; exact hv, h2, fun v H2 e2 h3 => q v H2 (e1.trans e2) h3⟩⟩
theorem st_of {st : Stmt} {t : TS} {m : En → Option Fl} (h : MS X K M st t m) : MSt X K M st t m := ⟨fun i pins s σ H D _ I q => (h.ps i).run pins s σ H D I q, h.sd⟩
theorem st_set (F : Fam X K N k) (i : Nat) {x : Str} {pos' : Pos} (h : MDt X K M e te me) (hi : i ∉ M := by decide) (hx : N[i]? = some x := by rfl) (hl : ∀ j, Loc (X j).env.scope x := by first | exact fun _ => Or.inl rfl | exact fun _ => Or.inr rfl) (hs : ∀ j, swapsWith e (some (.Name x pos')) pos.line (X j).env = pure false := by exact fun _ => rfl)
    (hf : ∀ j, (X j).fn x = true ∨ (X j).env.scope.names.lookup x = some .local := by first | exact fun _ => .inl rfl | exact fun _ => .inr rfl) : MSt X K M (.Assign [.Name x pos'] e pos) (tAsg te (gName i)) (mAsg me (gB i)) :=
  ⟨fun j pins s σ H D h0 I q => wpAny_Assign_Name (thn (h.pe j pins s σ H _ h0 I q) fun v s1 got => by
    obtain ⟨y, H1, I1, r1, q1⟩ := got
    exact store_ok I1 (by rw [F.hN j]; exact F.nd) (by rw [F.hN j]; exact hx) (hl j) r1 (fun s2 I2 => ⟨_, H1, I2, q1⟩) (hf j)) (hs j), snd_asg h.sd fun H0 O0 O σ H env d env' v s hv hb Q q => by
    cases hb
    exact q _ (s.set hi hv)⟩
theorem st_if {t : TT} {u w : TS} {m : En → Option Bool} {n p : En → Option Fl} {bs cs : List Stmt} (hc : MT X K M c t m) (ha : MSst X K M bs u n) (hb : MSst X K M cs w p) : MSt X K M (.If c bs cs pos) (tIfS t u w) (mIfS m n p) := ⟨fun i => CwR.pst_if (hc.pt i) (ha.ps i) (hb.ps i), fun H0 O0 O σ H env fl D s hm q => by
  obtain ⟨x, g1, g2⟩ := bind1 hm
  refine hc.sd H0 O0 O σ H env x s g1 _ fun H1 e1 => ?_
  cases x with
  | true =>
    rw [if_pos rfl] at g2 ⊢
    exact ha.sd H0 O0 O σ H1 env fl D (s.ex e1) g2 (q.weaken (cut_mono e1))
  | false =>
    rw [if_neg Bool.false_ne_true] at g2 ⊢
    exact hb.sd H0 O0 O σ H1 env fl D (s.ex e1) g2 (q.weaken (cut_mono e1))⟩
theorem sst_nil : MSst X K M [] tNext mNext := ⟨fun _ => CwR.psst_nil, ss_nil (X := X).sd⟩
theorem sst_one {st : Stmt} {t : TS} {m : En → Option Fl} (h : MSt X K M st t m) : MSst X K M [st] t m := ⟨fun i => by
  intro pins s σ H D h0 I q
  refine wpAny_execs_cons (wpAny_mono (h.ps i pins s σ H D h0 I q) (fun f s1 z => ?_) fun _ _ z => z)
  cases f with
  | next =>
    obtain ⟨σ', H', I', z⟩ := z
    exact wpAny_execs_nil ⟨σ', H', I', z⟩
  | ret v => exact z
  | brk => exact z
  | cont => exact z, h.sd⟩
theorem sst_cons {st : Stmt} {rest : List Stmt} {t u : TS} {m n : En → Option Fl} (h1 : MSt X K M st t m) (h2 : MSst X K M rest u n) : MSst X K M (st :: rest) (tSeq t u) (mSeq m n) := ⟨fun i => psst_cons (h1.ps i) (h2.ps i), snd_seq h1.sd h2.sd⟩
section
variable {P : Program} {w : World} {mg : Str → Option Value} {base : Heap}
theorem fn_dataT {x qual : Str} {st : Stmt} {f : Addr} {fd : FuncData} {ps : List Str} {j : Nat} {t : TS} {m : En → Option Fl} (F : Fun K x qual st f fd) (S : FnScope N ps (defScope st)) (nocell : ∀ y ∈ (defScope st).names, y.2 ≠ .cell) (some_ : 1 ≤ ps.length) (hM : ∀ i ∈ M, ps.length ≤ i) (h : MSst (defF P w K mg base N qual (defScope st) f j) K M (defBody st) t m) :
    FnOk P w K mg base CX0 (j + 1) f fd ps (spD K ps.length (runB N.length m)) := by
  (obtain ⟨oc, od, kV, doc, pm, an, cdv, ct, osl, rfl, lk, hcd⟩ := F.ex)
  refine fn_ofT lk hcd S nocell some_ (fun vs H Q E hq => ?_) fun A outer s H vs Q E hr hq => ?_
  · obtain ⟨ds, d, O, hl, _⟩ := hq
    exact hl
  · obtain ⟨ds, d, O, hl, ht, hv, hf, q⟩ := hq
    refine ⟨t, fun pins s2 σ2 H2 D h0 I hw => wpAny_mono (h.ps ⟨⟨cdv, A, outer, s, H, E⟩, hr⟩ pins s2 σ2 H2 D h0 (I.wish _) hw) (fun _ _ z => z.unwish) fun _ _ z => z.elim, ?_⟩
    obtain ⟨fl, g1, g2⟩ := bind1 hf
    refine h.sd H O O _ H _ fl _ (start_sl (n := N.length) ht hv (by rw [hl]; exact hM)) g1 ?_
    cases fl with
    | nx env =>
      cases g2
      exact fun σ' H' O' s' _ => q _ H' s'.ext .non
    | rt r =>
      cases g2
      exact fun v H' e hv => q v H' e hv
    | bk env => cases g2
    | ct env => cases g2
end
end

end Rv
namespace Rv
open PySem L2 PySem.Spec PyProof.Rows
/-! The data layer, part K: a display as a new list. -/
section
variable {ι : Type} {X : ι → Cx} {K : PySem.W.Frag} {N : List Str} {k : Nat} {M : List Nat} {a b c e tg : Expr} {ta tb tc te : TE} {ma mb mc me : En → Option PyData} {pos : Pos}
theorem f_lst {es : List Expr} {t : TA} {ms : En → Option (List PyData)} (h : MA X K M es t ms) : MF X K M (.List es pos) (tLst t) (mLst ms) := ⟨fun i => pe_lst (h.pa i), fun H0 O0 O σ H env d s hm Q q => by
  obtain ⟨ds, h1, h2⟩ := bind1 hm
  obtain ⟨hz, e⟩ := ite_some h2
  subst e
  exact h.sd H0 O0 O σ H env ds s h1 _ fun vs H1 e1 hv => ⟨by rw [dpAll_len hv]; exact hz, fun p hp => q p vs ds _ (e1.free hp) (e1.trans (Ex.new hp)) rfl upd_same (by rw [cut_cons hp]; exact hv)⟩⟩
end

end Rv
namespace Rv
open PySem L2 PySem.Spec PyProof.Rows
/-! The data layer, part L: star in a display, two fors in a comprehension. -/

section
variable {ι : Type} {X : ι → Cx} {K : PySem.W.Frag} {N : List Str} {k : Nat} {M : List Nat} {a b c e tg : Expr} {ta tb tc te : TE} {ma mb mc me : En → Option PyData} {pos : Pos}
def spreadD : PyData → Option (List PyData)
  | .list xs => some xs
  | .tuple xs => some xs
  | _ => none
def mStar (m : En → Option PyData) (ms : En → Option (List PyData)) : En → Option (List PyData) := fun env => (m env).bind fun d => (ms env).bind fun ds => (spreadD d).bind fun xs => some (xs ++ ds)
theorem a_star (F : Fam X K N k) {es : List Expr} {tr : TA} {mr : En → Option (List PyData)} {p : Pos} (h : MD X K M e te me) (hr : MA X K M es tr mr) (hs : ∀ i, starEach (.Starred e p :: es) (X i).env = (true, eval e (X i).env) :: starEach es (X i).env := by exact fun _ => rfl) : MA X K M (.Starred e p :: es) (StX.tStar K te tr) (mStar me mr) :=
  ⟨fun i => by
    have := StX.pa_star (h.pe i) (hr.pa i) (hs i)
    rw [F.hK i] at this
    exact this, fun H0 O0 O σ H env ds s hm Q q => by
    obtain ⟨d, r, h1, h2, h3⟩ := bind2 hm
    obtain ⟨xs, h4, h5⟩ := bind1 h3
    cases h5
    refine h.sd H0 O0 O σ H env d s h1 _ fun x H1 e1 hx => ?_
    cases d with
    | list ys =>
      cases h4
      cases hx with
      | lst hs ha => exact ⟨_, _, rfl, .inr (cut_ex.sl hs), hr.sd H0 O0 O σ H1 env r (s.ex e1) h2 _ fun vs H2 e2 hvs => q _ H2 (e1.trans e2) (dpAll_app (dpAll_ex (cut_mono e2) ha) hvs)⟩
    | tuple ys =>
      cases h4
      cases hx with
      | tup hs ha => exact ⟨_, _, rfl, .inl (cut_ex.st hs), hr.sd H0 O0 O σ H1 env r (s.ex e1) h2 _ fun vs H2 e2 hvs => q _ H2 (e1.trans e2) (dpAll_app (dpAll_ex (cut_mono e2) ha) hvs)⟩
    | _ => cases h4⟩

/-! ### two fors, the first over a plain name -/
def lc2D (j : Nat) (mt : En → Option Bool) (vs1 : List Nat) (mi1 : En → Option (List PyData)) (bnd1 : PyData → En → Option En) (mt1 : En → Option Bool) (me : En → Option PyData) (env : En) : List PyData → Option (List PyData)
  | [] => some []
  | d :: ds => (mt (env.set j (some d))).bind fun b => if b = true then (mi1 (env.set j (some d))).bind fun es => (lcD bnd1 mt1 me (wipeD (env.set j (some d)) vs1) es).bind fun r1 => (lc2D j mt vs1 mi1 bnd1 mt1 me env ds).bind fun r => some (r1 ++ r) else lc2D j mt vs1 mi1 bnd1 mt1 me env ds
def mLc2 (vs : List Nat) (mi : En → Option (List PyData)) (j : Nat) (mt : En → Option Bool) (vs1 : List Nat) (mi1 : En → Option (List PyData)) (bnd1 : PyData → En → Option En) (mt1 : En → Option Bool) (me : En → Option PyData) : En → Option PyData := fun env => (mi env).bind fun ds => (lc2D j mt vs1 mi1 bnd1 mt1 me (wipeD env vs) ds).bind fun r => if r.length ≤ sizeLine then some (.list r) else none
theorem lc2D_cons {j : Nat} {mt mt1 : En → Option Bool} {vs1 : List Nat} {mi1 : En → Option (List PyData)} {bnd1 : PyData → En → Option En} {env : En} {d : PyData} {ds r : List PyData} (h : lc2D j mt vs1 mi1 bnd1 mt1 me env (d :: ds) = some r) :
    ∃ b, mt (env.set j (some d)) = some b ∧ ((b = true ∧ ∃ es r1 r', mi1 (env.set j (some d)) = some es ∧ lcD bnd1 mt1 me (wipeD (env.set j (some d)) vs1) es = some r1 ∧ lc2D j mt vs1 mi1 bnd1 mt1 me env ds = some r' ∧ r = r1 ++ r') ∨ (b = false ∧ lc2D j mt vs1 mi1 bnd1 mt1 me env ds = some r)) := by
  obtain ⟨b, h3, h4⟩ := bind1 (show ((mt (env.set j (some d))).bind _) = some r from h)
  refine ⟨b, h3, ?_⟩
  cases b with
  | true =>
    rw [if_pos rfl] at h4
    obtain ⟨es, h5, h6⟩ := bind1 h4
    obtain ⟨r1, r', h7, h8, h9⟩ := bind2 h6
    cases h9
    exact .inl ⟨rfl, es, r1, r', h5, h7, h8, rfl⟩
  | false =>
    rw [if_neg Bool.false_ne_true] at h4
    exact .inr ⟨rfl, h4⟩
theorem snd_lc2 {vs vs1 : List Nat} {j : Nat} {wi wi1 : TI} {mi mi1 : En → Option (List PyData)} {g1 : TG} {bnd1 : PyData → En → Option En} {tt tt1 : TT} {mt mt1 : En → Option Bool}
    (hi : ∀ H0 O0 O σ H env ds, Sl K M H0 O0 O σ H env → mi env = some ds → ∀ R : It → Hp → Prop, (∀ J H2, Ex H H2 → Wk K O J H2 ds true → R J H2) → wi σ H R)
    (hi1 : ∀ H0 O0 O σ H env ds, Sl K M H0 O0 O σ H env → mi1 env = some ds → ∀ R : It → Hp → Prop, (∀ J H2, Ex H H2 → Wk K O J H2 ds false → R J H2) → wi1 σ H R)
    (hj : j ∉ M) (hv : j ∈ vs) (hg1 : SndG K M g1 bnd1) (hk1 : ∀ x σ H (Q : L2.St → Hp → Prop), g1 x (wipe σ vs1) H Q → g1 x (wipe σ vs1) H fun σ2 H2 => wipe σ2 vs1 = wipe σ vs1 ∧ Q σ2 H2)
    (ht : SndT K M tt mt) (ht1 : SndT K M tt1 mt1) (he : Snd K M te me) : Snd K M (tLc2 wi (gName j) tt wi1 g1 tt1 te vs vs1) (mLc2 vs mi j mt vs1 mi1 bnd1 mt1 me) := fun H0 O0 O σ H env d s hm Q q => by
  obtain ⟨ds, h1, h2⟩ := bind1 hm
  obtain ⟨r, h3, h4⟩ := bind1 h2
  obtain ⟨hz, e⟩ := ite_some h4
  subst e
  refine hi H0 O0 O σ H env ds s h1 _ fun J H1 e1 wk D hD => ?_
  have s1 := s.ex e1
  have nD : D ∉ O := s1.new hD
  have up : ∀ H', Ex (cut H1 O) (cut H' (D :: O)) → (∀ l ∈ O, ∀ o, H1 l = some o → H' l = some o) → (∃ acc, H' D = some (.lst acc)) → Sl K M H0 O0 (D :: O) (wipe σ vs) H' (wipeD env vs) := fun H' x1 x2 x3 => by
    have xx : Ex H1 H' := fun a o q => by
      by_cases z : a ∈ O
      · exact x2 a z o q
      · exact cut_ex _ _ (x1 a o (by rw [cut_out z]; exact q))
    have s2 := (Sl.wiped (s1.ex xx) vs)
    refine ⟨s2.ext, fun l h => ?_, fun l h => List.mem_cons_of_mem _ (s2.sub l h), fun l h => ?_, fun i d' h n => ?_, fun i d' h n => ?_, s2.inj, s2.len⟩
    · rcases List.mem_cons.mp h with z | z
      · subst z
        exact .inr (s1.ext.free hD)
      · exact s2.fresh l z
    · rcases List.mem_cons.mp h with z | z
      · subst z
        obtain ⟨acc, q⟩ := x3
        exact ⟨_, q⟩
      · exact s2.there l z
    · obtain ⟨v, g1, g2⟩ := (Sl.wiped s1 vs).sh i d' h n
      exact ⟨v, g1, dp_ex x1 g2⟩
    · obtain ⟨l, o, g1, g2, g3, g5, g6⟩ := (Sl.wiped s1 vs).ow i d' h n
      exact ⟨l, o, g1, List.mem_cons_of_mem _ g2, g3, x2 l g2 _ g5, g6.ex x1⟩
  refine ⟨fun i m H' => i ≤ ds.length ∧ m = ds.length - i ∧ Ex (cut H1 O) (cut H' (D :: O)) ∧ (∀ l ∈ O, ∀ o, H1 l = some o → H' l = some o) ∧ ∃ acc rs rest, H' D = some (.lst acc) ∧ DpAll K (cut H' (D :: O)) acc rs ∧ lc2D j mt vs1 mi1 bnd1 mt1 me (wipeD env vs) (ds.drop i) = some rest ∧ rs ++ rest = r,
    ⟨ds.length, Nat.zero_le _, rfl, ?_, ?_, [], [], r, upd_same, .nil, h3, rfl⟩, fun i m H' w => ?_⟩
  · rw [cut_cons hD]
    exact Ex.refl _
  · intro l hl o ho
    rw [upd_ne fun (z : l = D) => by rw [z, hD] at ho; cases ho]
    exact ho
  · obtain ⟨hil, rfl, x1, x2, acc, rs, rest, y1, y2, y3, y4⟩ := w
    have s3 := up H' x1 x2 ⟨acc, y1⟩
    have xx : Ex H1 H' := fun a o q => by
      by_cases z : a ∈ O
      · exact x2 a z o q
      · exact cut_ex _ _ (x1 a o (by rw [cut_out z]; exact q))
    have hw := wk H' (D :: O) x1 s3.there (fun _ l hl o ho => x2 l hl o ho) i
    by_cases hlt : i < ds.length
    · have hdi : ds[i]? = some ds[i] := List.getElem?_eq_getElem hlt
      obtain ⟨go, yl⟩ := hw.1 _ hdi
      rw [List.drop_eq_getElem_cons hlt] at y3
      obtain ⟨b, z2, z3⟩ := lc2D_cons y3
      refine .inr ⟨go, fun H2 => i + 1 ≤ ds.length ∧ Ex (cut H1 O) (cut H2 (D :: O)) ∧ (∀ l ∈ O, ∀ o, H1 l = some o → H2 l = some o) ∧ ∃ acc rs rest, H2 D = some (.lst acc) ∧ DpAll K (cut H2 (D :: O)) acc rs ∧ lc2D j mt vs1 mi1 bnd1 mt1 me (wipeD env vs) (ds.drop (i + 1)) = some rest ∧ rs ++ rest = r, fun H2 p => ⟨ds.length - (i + 1), by omega, p.1, rfl, p.2⟩, fun x H2 hy => ?_⟩
      obtain ⟨e2, hx⟩ := yl x H2 hy
      have s4 : Sl K M H0 O0 (D :: O) ((wipe σ vs).set j (some x)) H2 ((wipeD env vs).set j (some ds[i])) := (s3.ex e2).set hj hx
      refine ⟨by rw [wipe_set hv, wipe_wipe], ?_⟩
      refine ht H0 O0 (D :: O) _ H2 _ b s4 z2 _ fun H3 e3 => ?_
      have s5 := s4.ex e3
      have e23 := e2.trans e3
      rcases z3 with ⟨z4, es, r1, r', z5, z6, z7, z8⟩ | ⟨z4, z5⟩
      · subst z4
        rw [if_pos rfl]
        refine hi1 H0 O0 (D :: O) _ H3 _ es s5 z5 _ fun J1 H4 e4 wk1 => ?_
        have e24 := e23.trans e4
        -- the slots later on, over a longer list
        have later : ∀ H5, Ex (cut H4 (D :: O)) (cut H5 (D :: O)) → (∀ l ∈ O, ∀ o, H4 l = some o → H5 l = some o) → (∃ acc, H5 D = some (.lst acc)) → Sl K M H0 O0 (D :: O) ((wipe σ vs).set j (some x)) H5 ((wipeD env vs).set j (some ds[i])) := fun H5 w1 w2 w3 => by
          have c24 : Ex (cut H2 (D :: O)) (cut H4 (D :: O)) := cut_mono (e3.trans e4)
          have w4 : Ex (cut H1 O) (cut H5 (D :: O)) := (x1.trans (cut_mono e24)).trans w1
          exact (up H5 w4 (fun l hl o ho => w2 l hl o (e24 _ _ (x2 l hl o ho))) w3).set hj (dp_ex (c24.trans w1) hx)
        refine ⟨fun j1 k1 H5 => j1 ≤ es.length ∧ k1 = es.length - j1 ∧ Ex (cut H4 (D :: O)) (cut H5 (D :: O)) ∧ (∀ l ∈ O, ∀ o, H4 l = some o → H5 l = some o) ∧ ∃ acc rs rest1, H5 D = some (.lst acc) ∧ DpAll K (cut H5 (D :: O)) acc rs ∧ lcD bnd1 mt1 me (wipeD ((wipeD env vs).set j (some ds[i])) vs1) (es.drop j1) = some rest1 ∧ rs ++ (rest1 ++ r') = r,
          ⟨es.length, Nat.zero_le _, rfl, Ex.refl _, fun _ _ _ h => h, acc, rs, r1, e24 _ _ y1, dpAll_ex (cut_mono e24) y2, z6, by rw [z8] at y4; exact y4⟩, fun j1 k1 H5 w1 => ?_⟩
        obtain ⟨hjl, rfl, p1, p2, acc1, rs1, rest1, p3, p4, p5, p6⟩ := w1
        have s6 := later H5 p1 p2 ⟨acc1, p3⟩
        have hw1 := wk1 H5 (D :: O) p1 s6.there (fun z => nomatch z) j1
        by_cases hlt1 : j1 < es.length
        · have hdj : es[j1]? = some es[j1] := List.getElem?_eq_getElem hlt1
          obtain ⟨go1, yl1⟩ := hw1.1 _ hdj
          rw [List.drop_eq_getElem_cons hlt1] at p5
          obtain ⟨env1, b1, q1, q2, q3⟩ := lcD_cons p5
          refine .inr ⟨go1, fun H6 => j1 + 1 ≤ es.length ∧ Ex (cut H4 (D :: O)) (cut H6 (D :: O)) ∧ (∀ l ∈ O, ∀ o, H4 l = some o → H6 l = some o) ∧ ∃ acc rs rest1, H6 D = some (.lst acc) ∧ DpAll K (cut H6 (D :: O)) acc rs ∧ lcD bnd1 mt1 me (wipeD ((wipeD env vs).set j (some ds[i])) vs1) (es.drop (j1 + 1)) = some rest1 ∧ rs ++ (rest1 ++ r') = r, fun H6 p => ⟨es.length - (j1 + 1), by omega, p.1, rfl, p.2⟩, fun x1' H6 hy1 => ?_⟩
          obtain ⟨f2, hx1⟩ := yl1 x1' H6 hy1
          refine hk1 x1' _ H6 _ ?_
          refine hg1 H0 O0 (D :: O) (wipe ((wipe σ vs).set j (some x)) vs1) H6 (wipeD ((wipeD env vs).set j (some ds[i])) vs1) es[j1] env1 x1' (Sl.wiped (s6.ex f2) vs1) hx1 q1 _ fun σ3 s7 => ?_
          refine ht1 H0 O0 (D :: O) σ3 H6 env1 b1 s7 q2 _ fun H7 f3 => ?_
          have s8 := s7.ex f3
          have f23 := f2.trans f3
          have accLen : acc1.length < sizeLine ∨ b1 = false := by
            rcases q3 with ⟨_, x', r2, _, t5, t6⟩ | ⟨t4, _⟩
            · left
              have l1 := dpAll_len p4
              have l2 : (rs1 ++ (rest1 ++ r')).length = r.length := by rw [p6]
              rw [List.length_append, t6, List.length_append, List.length_cons] at l2
              omega
            · exact .inr t4
          rcases q3 with ⟨t4, x', r2, t5, t6, t7⟩ | ⟨t4, t5⟩
          · subst t4
            rw [if_pos rfl]
            refine he H0 O0 (D :: O) σ3 H7 env1 x' s8 t5 _ fun y H8 f4 hy4 => ?_
            have f24 := f23.trans f4
            have hD8 : H8 D = some (.lst acc1) := f24 _ _ p3
            have ec : cut (upd H8 D (.lst (acc1 ++ [y]))) (D :: O) = cut H8 (D :: O) := cut_write List.mem_cons_self
            refine ⟨acc1, hD8, accLen.resolve_right (fun z => by cases z), by omega, ?_, fun l hl o ho => ?_, acc1 ++ [y], rs1 ++ [x'], r2, upd_same, ?_, t6, by rw [List.append_assoc]; rw [t7] at p6; exact p6⟩
            · rw [ec]
              exact p1.trans (cut_mono f24)
            · rw [upd_ne fun (z : l = D) => nD (by rw [← z]; exact hl)]
              exact f24 _ _ (p2 l hl o ho)
            · rw [ec]
              exact dpAll_app (dpAll_ex (cut_mono f24) p4) (.cons hy4 .nil)
          · subst t4
            rw [if_neg (show ¬ false = true from Bool.false_ne_true)]
            exact ⟨by omega, p1.trans (cut_mono f23), fun l hl o ho => f23 _ _ (p2 l hl o ho), acc1, rs1, rest1, f23 _ _ p3, dpAll_ex (cut_mono f23) p4, t5, p6⟩
        · have hle1 : es.length ≤ j1 := by omega
          refine .inl ⟨hw1.2 (by omega), by omega, (x1.trans (cut_mono e24)).trans p1, fun l hl o ho => p2 l hl o (e24 _ _ (x2 l hl o ho)), acc1, rs1, r', p3, p4, z7, ?_⟩
          rw [List.drop_of_length_le hle1] at p5
          cases p5
          exact p6
      · subst z4
        rw [if_neg (show ¬ false = true from Bool.false_ne_true)]
        exact ⟨by omega, x1.trans (cut_mono e23), fun l hl o ho => e23 _ _ (x2 l hl o ho), acc, rs, rest, e23 _ _ y1, dpAll_ex (cut_mono e23) y2, z5, y4⟩
    · have hle : ds.length ≤ i := by omega
      refine .inl ⟨hw.2 (by omega), q _ H' (e1.trans xx) ?_⟩
      rw [List.drop_of_length_le hle] at y3
      cases y3
      rw [List.append_nil] at y4
      subst y4
      have xD : Ex (cut H' (D :: O)) (cut H' O) := cut_less fun a h => List.mem_cons_of_mem _ h
      exact .lst (.inl (.inl (by rw [cut_out nD]; exact y1))) (dpAll_ex xD y2)
theorem d_lc2 (F : Fam X K N k) {iter iter1 tg1 : Expr} {ifs ifs1 : List Expr} {scope sc : Scope} (own : List (Str × Nat)) (vs1 : List Nat) (j : Nat) {wi wi1 : TI} {mi mi1 : En → Option (List PyData)} {g1 : TG} {bnd1 : PyData → En → Option En} {tt tt1 : TT} {mt mt1 : En → Option Bool}
    (hi : MI X K M tg iter wi mi true) (hsc : ∀ i, (X i).env.scope = sc) (ok : BlkOk N sc scope own) (hg : MG (blkF X scope) K M tg (gName j) (gB j)) (ht : MTs (blkF X scope) K M ifs tt mt)
    (hi1 : MI (blkF X scope) K M tg1 iter1 wi1 mi1 false) (hg1 : MG (blkF X scope) K M tg1 g1 bnd1) (hk1 : GK vs1 g1) (ht1 : MTs (blkF X scope) K M ifs1 tt1 mt1) (he : MD (blkF X scope) K M e te me)
    (hj : j ∉ M := by decide) (hv : j ∈ own.map (·.2) := by decide) (hv1 : ∀ i ∈ vs1, i ∈ own.map (·.2) := by decide) (hs : ∀ i x, foldedSetIterable iter (X i).env x = pure x := by exact fun _ _ => rfl) (hs1 : ∀ env x, foldedSetIterable iter1 env x = pure x := by exact fun _ _ => rfl) :
    MD X K M (.ListComp e [⟨tg, iter, ifs, 0⟩, ⟨tg1, iter1, ifs1, 0⟩] scope pos) (tLc2 wi (gName j) tt wi1 g1 tt1 te (own.map (·.2)) vs1) (mLc2 (own.map (·.2)) mi j mt vs1 mi1 bnd1 mt1 me) :=
  ⟨fun i => pe_lc2 (F.calm i) (by rw [F.hN i]; exact F.nd) (hi.pi i) (by rw [F.hN i, hsc i]; exact ok) hv1 (fun s H C cl fp => hg.pg ⟨i, s, H, C, cl, fp⟩) (fun s H C cl fp => ht.pt ⟨i, s, H, C, cl, fp⟩) (fun s H C cl fp => hi1.pi ⟨i, s, H, C, cl, fp⟩) (fun s H C cl fp => hg1.pg ⟨i, s, H, C, cl, fp⟩) (fun s H C cl fp => ht1.pt ⟨i, s, H, C, cl, fp⟩) (fun s H C cl fp => he.pe ⟨i, s, H, C, cl, fp⟩) (hs i) hs1,
    snd_lc2 hi.sd hi1.sd hj hv hg1.sd (fun x σ H Q q => by
      have := hk1 x (wipe σ vs1) H Q q
      rw [wipe_wipe] at this
      exact this) ht.sd ht1.sd he.sd⟩
/-- x = [.. for .. for ..] -/
theorem s_setLc2 (F : Fam X K N k) (i : Nat) {y : Str} {py spos : Pos} {iter iter1 tg1 : Expr} {ifs ifs1 : List Expr} {scope sc : Scope} (own : List (Str × Nat)) (vs1 : List Nat) (j : Nat) {wi wi1 : TI} {mi mi1 : En → Option (List PyData)} {g1 : TG} {bnd1 : PyData → En → Option En} {tt tt1 : TT} {mt mt1 : En → Option Bool}
    (hi : MI X K M tg iter wi mi true) (hsc : ∀ i, (X i).env.scope = sc) (ok : BlkOk N sc scope own) (hg : MG (blkF X scope) K M tg (gName j) (gB j)) (ht : MTs (blkF X scope) K M ifs tt mt)
    (hi1 : MI (blkF X scope) K M tg1 iter1 wi1 mi1 false) (hg1 : MG (blkF X scope) K M tg1 g1 bnd1) (hk1 : GK vs1 g1) (ht1 : MTs (blkF X scope) K M ifs1 tt1 mt1) (he : MD (blkF X scope) K M e te me)
    (hM : i ∉ M := by decide) (hj : j ∉ M := by decide) (hv : j ∈ own.map (·.2) := by decide) (hv1 : ∀ i ∈ vs1, i ∈ own.map (·.2) := by decide) (hy : N[i]? = some y := by rfl) (hyl : ∀ q, (X q).env.scope.names.lookup y = some .local := by exact fun _ => rfl)
    (hsw : ∀ q, swapsWith (.ListComp e [⟨tg, iter, ifs, 0⟩, ⟨tg1, iter1, ifs1, 0⟩] scope pos) (some (.Name y py)) spos.line (X q).env = pure true := by exact fun _ => sw_true rfl rfl rfl (by decide +kernel)) (hs : ∀ i x, foldedSetIterable iter (X i).env x = pure x := by exact fun _ _ => rfl) (hs1 : ∀ env x, foldedSetIterable iter1 env x = pure x := by exact fun _ _ => rfl) :
    MS X K M (.Assign [.Name y py] (.ListComp e [⟨tg, iter, ifs, 0⟩, ⟨tg1, iter1, ifs1, 0⟩] scope pos) spos) (tAsg (tLc2 wi (gName j) tt wi1 g1 tt1 te (own.map (·.2)) vs1) (gName i)) (mAsg (mLc2 (own.map (·.2)) mi j mt vs1 mi1 bnd1 mt1 me) (gB i)) :=
  ⟨fun q => ps_setLc2 (F.calm q) (by rw [F.hN q]; exact F.nd) (by rw [F.hN q]; exact hy) (hyl q) (hsw q) (hi.pi q) (by rw [F.hN q, hsc q]; exact ok) hv1 (fun s H C cl fp => hg.pg ⟨q, s, H, C, cl, fp⟩) (fun s H C cl fp => ht.pt ⟨q, s, H, C, cl, fp⟩) (fun s H C cl fp => hi1.pi ⟨q, s, H, C, cl, fp⟩) (fun s H C cl fp => hg1.pg ⟨q, s, H, C, cl, fp⟩) (fun s H C cl fp => ht1.pt ⟨q, s, H, C, cl, fp⟩) (fun s H C cl fp => he.pe ⟨q, s, H, C, cl, fp⟩) (hs q) hs1,
    snd_asg (snd_lc2 hi.sd hi1.sd hj hv hg1.sd (fun x σ H Q q => by
      have := hk1 x (wipe σ vs1) H Q q
      rw [wipe_wipe] at this
      exact this) ht.sd ht1.sd he.sd) fun H0 O0 O σ H env d env' v s hv hb Q q => by
    cases hb
    exact q _ (s.set hM hv)⟩
end

end Rv
namespace Rv
open PySem L2 PySem.Spec PyProof.Rows
/-! The data layer, part M: defs that raise errors of their own classes (errors without fields). -/

/-- how a block goes on, raising too: the class's name, and the slots then -/
inductive Fx where
  | fl (f : Fl) | xc (c : Str) (env : En)
def ContX (K : PySem.W.Frag) (M : List Nat) (mg : Str → Option Value) (H0 : Hp) (O0 O : List Addr) (H : Hp) (D : Ends) (W : WX) : Fx → Prop
  | .fl f => Cont K M H0 O0 O H D f
  | .xc c env => ∀ C σ' H' O', mg c = some (.ref C) → Sl K M H0 O0 O' σ' H' env → Ex (cut H O) (cut H' O') → W (.ref C) none σ' H'
def SndX (K : PySem.W.Frag) (M : List Nat) (mg : Str → Option Value) (t : WX → TS) (m : En → Option Fx) : Prop :=
  ∀ W H0 O0 O σ H env fx D, Sl K M H0 O0 O σ H env → m env = some fx → ContX K M mg H0 O0 O H D W fx → t W D σ H
structure MX {ι : Type} (X : ι → Cx) (W : ι → WX) (K : PySem.W.Frag) (mg : Str → Option Value) (M : List Nat) (st : Stmt) (t : WX → TS) (m : En → Option Fx) : Prop where
  ps : ∀ i, PS (X i) st (t (W i))
  sd : SndX K M mg t m
structure MXs {ι : Type} (X : ι → Cx) (W : ι → WX) (K : PySem.W.Frag) (mg : Str → Option Value) (M : List Nat) (sts : List Stmt) (t : WX → TS) (m : En → Option Fx) : Prop where
  ps : ∀ i, PSs (X i) sts (t (W i))
  sd : SndX K M mg t m
def mFl (m : En → Option Fl) : En → Option Fx := fun env => (m env).bind fun f => some (.fl f)
section
variable {ι : Type} {X : ι → Cx} {W : ι → WX} {K : PySem.W.Frag} {mg : Str → Option Value} {N : List Str} {k : Nat} {M : List Nat} {a b c e tg : Expr} {ta tb tc te : TE} {ma mb mc me : En → Option PyData} {pos : Pos}
theorem snd_fl {t : TS} {m : En → Option Fl} (h : SndS K M t m) : SndX K M mg (fun _ => t) (mFl m) := fun W H0 O0 O σ H env fx D s hm q => by
  obtain ⟨f, g1, g2⟩ := bind1 hm
  cases g2
  exact h H0 O0 O σ H env f D s g1 q
theorem x_of {st : Stmt} {t : TS} {m : En → Option Fl} (h : MS X K M st t m) : MX X W K mg M st (fun _ => t) (mFl m) := ⟨fun i => h.ps i, snd_fl h.sd⟩
theorem xs_of {sts : List Stmt} {t : TS} {m : En → Option Fl} (h : MSs X K M sts t m) : MXs X W K mg M sts (fun _ => t) (mFl m) := ⟨fun i => h.ps i, snd_fl h.sd⟩
theorem ContX.weaken {H0 H H1 : Hp} {O0 O O1 : List Addr} {D : Ends} {V : WX} {fx : Fx} (e : Ex (cut H O) (cut H1 O1)) (h : ContX K M mg H0 O0 O H D V fx) : ContX K M mg H0 O0 O1 H1 D V fx := by
  cases fx with
  | fl f => exact Cont.weaken e h
  | xc c env => exact fun C σ' H' O' g s x => h C σ' H' O' g s (e.trans x)
def mSeqX (m n : En → Option Fx) : En → Option Fx := fun env => (m env).bind fun f => match f with
  | .fl (.nx env') => n env'
  | f => some f
theorem snd_seqX {t u : WX → TS} {m n : En → Option Fx} (h1 : SndX K M mg t m) (h2 : SndX K M mg u n) : SndX K M mg (fun V => tSeq (t V) (u V)) (mSeqX m n) := fun V H0 O0 O σ H env fx D s hm q => by
  obtain ⟨f, g1, g2⟩ := bind1 hm
  cases f with
  | fl f =>
    cases f with
    | nx env' => exact h1 V H0 O0 O σ H env (.fl (.nx env')) { D with nx := u V D } s g1 fun σ' H' O' s' x => h2 V H0 O0 O' σ' H' env' fx D s' g2 (q.weaken x)
    | rt d =>
      cases g2
      exact h1 V H0 O0 O σ H env (.fl (.rt d)) { D with nx := u V D } s g1 q
    | bk env' =>
      cases g2
      exact h1 V H0 O0 O σ H env (.fl (.bk env')) { D with nx := u V D } s g1 q
    | ct env' =>
      cases g2
      exact h1 V H0 O0 O σ H env (.fl (.ct env')) { D with nx := u V D } s g1 q
  | xc c env' =>
    cases g2
    exact h1 V H0 O0 O σ H env (.xc c env') { D with nx := u V D } s g1 q
theorem xs_cons {st : Stmt} {rest : List Stmt} {t u : WX → TS} {m n : En → Option Fx} (h1 : MX X W K mg M st t m) (h2 : MXs X W K mg M rest u n) : MXs X W K mg M (st :: rest) (fun V => tSeq (t V) (u V)) (mSeqX m n) := ⟨fun i => pss_cons (h1.ps i) (h2.ps i), snd_seqX h1.sd h2.sd⟩
theorem xs_one {st : Stmt} {t : WX → TS} {m : En → Option Fx} (h1 : MX X W K mg M st t m) : MXs X W K mg M [st] t m := ⟨fun i => pss_one (h1.ps i), h1.sd⟩
def mIfX (m : En → Option Bool) (n p : En → Option Fx) : En → Option Fx := fun env => (m env).bind fun b => if b = true then n env else p env
theorem x_if {t : TT} {u w : WX → TS} {m : En → Option Bool} {n p : En → Option Fx} {bs cs : List Stmt} (hc : MT X K M c t m) (ha : MXs X W K mg M bs u n) (hb : MXs X W K mg M cs w p) : MX X W K mg M (.If c bs cs pos) (fun V => tIfS t (u V) (w V)) (mIfX m n p) := ⟨fun i => ps_if (hc.pt i) (ha.ps i) (hb.ps i), fun V H0 O0 O σ H env fx D s hm q => by
  obtain ⟨x, g1, g2⟩ := bind1 hm
  refine hc.sd H0 O0 O σ H env x s g1 _ fun H1 e1 => ?_
  cases x with
  | true =>
    rw [if_pos rfl] at g2 ⊢
    exact ha.sd V H0 O0 O σ H1 env fx D (s.ex e1) g2 (q.weaken (cut_mono e1))
  | false =>
    rw [if_neg Bool.false_ne_true] at g2 ⊢
    exact hb.sd V H0 O0 O σ H1 env fx D (s.ex e1) g2 (q.weaken (cut_mono e1))⟩
/-- raise C(..): mk says that the expression makes one -/
theorem x_raise {cn : Str} {C : Addr} (F : Fam X K N k) (hC : mg cn = some (.ref C)) (tk : ∀ i, L2N.Takes (X i) (W i)) (mk : ∀ i, L2N.PMk (X i) e fun _ H Q => Q (.ref C) none H) : MX X W K mg M (.Raise (some e) none pos) (fun V _ σ H => V (.ref C) none σ H) (fun env => some (.xc cn env)) :=
  ⟨fun i => L2N.ps_raise (F.calm i) (tk i) (mk i), fun V H0 O0 O σ H env fx D s hm q => by
    cases hm
    exact q C σ H O hC s (Ex.refl _)⟩

/-! ### defs that may raise -/
def spX (K : PySem.W.Frag) (mg : Str → Option Value) (n : Nat) (f : List PyData → Option (PyData ⊕ Str)) : Sp := fun vs H Q E => ∃ ds r O, vs.length = n ∧ (∀ l ∈ O, ∃ o, H l = some o) ∧ DpAll K (cut H O) vs ds ∧ f ds = some r ∧
  (∀ d, r = .inl d → ∀ v H2, Ex H H2 → Dp K (cut H2 O) v d → Q v H2) ∧ (∀ cn, r = .inr cn → ∀ C H2, mg cn = some (.ref C) → Ex H H2 → E (.ref C) none H2)
def runX (n : Nat) (m : En → Option Fx) : List PyData → Option (PyData ⊕ Str) := fun ds => (m (ds.map some ++ List.replicate (n - ds.length) none)).bind fun f => match f with
  | .fl (.nx _) => some (.inl .none)
  | .fl (.rt d) => some (.inl d)
  | .xc c _ => some (.inr c)
  | _ => none
def mCX (f : List PyData → Option (PyData ⊕ Str)) (ms : En → Option (List PyData)) (g : PyData → En → Option Fl) : En → Option Fx := fun env => (ms env).bind fun ds => (f ds).bind fun r => match r with
  | .inl d => (g d env).bind fun fl => some (.fl fl)
  | .inr c => some (.xc c env)
theorem snd_callX {n : Nat} {fn : List PyData → Option (PyData ⊕ Str)} {t : TA} {ms : En → Option (List PyData)} {g : PyData → En → Option Fl} {T : TE → TS} (h : SndA K M t ms) (hl : ∀ env ds, ms env = some ds → ds.length = n)
    (hT : ∀ (u : TE) (D : Ends) (σ : L2.St) (H : Hp), (u σ H fun v H1 => T (fun σ' H' Q => Q v H') D σ H1) → T u D σ H)
    (hg : ∀ H0 O0 O σ H env d v fl D, Sl K M H0 O0 O σ H env → Dp K (cut H O) v d → g d env = some fl → Cont K M H0 O0 O H D fl → T (fun σ' H' Q => Q v H') D σ H) :
    SndX K M mg (fun V => T (tCallS (spX K mg n fn) (WE V) t)) (mCX fn ms g) := fun V H0 O0 O σ H env fx D s hm q => by
  obtain ⟨ds, g1, g2⟩ := bind1 hm
  obtain ⟨r, g3, g4⟩ := bind1 g2
  refine hT _ D σ H ?_
  refine h H0 O0 O σ H env ds s g1 _ fun vs H1 e1 hv => ?_
  refine ⟨ds, r, O, by rw [dpAll_len hv]; exact hl env ds g1, (s.ex e1).there, hv, g3, fun d er v H2 e2 hd => ?_, fun cn er C H2 hC e2 => ?_⟩
  · subst er
    obtain ⟨fl, g5, g6⟩ := bind1 g4
    cases g6
    exact hg H0 O0 O σ H2 env d v fl D ((s.ex e1).ex e2) hd g5 (Cont.weaken (cut_mono (e1.trans e2)) q)
  · subst er
    cases g4
    exact q C σ H2 O hC ((s.ex e1).ex e2) (cut_mono (e1.trans e2))
theorem pe_callX {j : Nat} {f : Addr} {fd : FuncData} {ps : List Str} {x : Str} {p : Pos} {es : List Expr} {fn : List PyData → Option (PyData ⊕ Str)} {t : TA} {ms : En → Option (List PyData)} (G : ∀ i, FnOk (X i).prog (X i).w (X i).K (X i).mg (X i).base (L2N.CX (X i).prog (X i).w) j f fd ps (spX K mg ps.length fn)) (hr : ∀ i, Room j (X i).A) (tk : ∀ i, L2N.Takes (X i) (W i))
    (hm : ∀ i, (X i).mg x = some (.ref f)) (hk : ∀ i, PySem.W.keepIn (X i).K (.ref f) = true) (hb : ∀ i, Binds (X i).K fd ps []) (h : MA X K M (e :: es) t ms)
    (hg : ∀ i, Gl (X i) x := by exact fun _ => rfl) (hdb : (x == ("__debug__" : Str)) = false := by decide) (he : ∀ i, starEach (e :: es) (X i).env = (false, eval e (X i).env) :: starEach es (X i).env := by exact fun _ => rfl) (hpl : ∀ i, (backTo pos (starEach es (X i).env)).any (·.1) = false := by exact fun _ => rfl) :
    ∀ i, PE (X i) (.Call (.Name x p) (e :: es) [] pos) (tCallS (spX K mg ps.length fn) (WE (W i)) t) := fun i => pe_callS (G i) (hr i) (hg i) (hm i) (hk i) (hb i) (fun σ => L2N.passAt (tk i) σ) (h.pa i) hdb (he i) (hpl i)
/-- f(..) as a statement -/
theorem x_callE {n : Nat} {fn : List PyData → Option (PyData ⊕ Str)} {t : TA} {ms : En → Option (List PyData)} {ce : Expr} (hp : ∀ i, PE (X i) ce (tCallS (spX K mg n fn) (WE (W i)) t)) (h : SndA K M t ms) (hl : ∀ env ds, ms env = some ds → ds.length = n) (hs : ∀ i, swapsWith ce none pos.line (X i).env = pure false := by exact fun _ => rfl) :
    MX X W K mg M (.Expr ce pos) (fun V => tDrop (tCallS (spX K mg n fn) (WE V) t)) (mCX fn ms fun _ env => some (.nx env)) :=
  ⟨fun i => ps_expr (hp i) (hs i), snd_callX (T := tDrop) h hl (fun _ _ _ _ q => q) fun H0 O0 O σ H env d v fl D s hv hgo q => by
    cases hgo
    exact q σ H O s (Ex.refl _)⟩
/-- return f(..) -/
theorem x_callR {n : Nat} {fn : List PyData → Option (PyData ⊕ Str)} {t : TA} {ms : En → Option (List PyData)} {ce : Expr} (hp : ∀ i, PE (X i) ce (tCallS (spX K mg n fn) (WE (W i)) t)) (h : SndA K M t ms) (hl : ∀ env ds, ms env = some ds → ds.length = n) :
    MX X W K mg M (.Return (some ce) pos) (fun V => tRet (tCallS (spX K mg n fn) (WE V) t)) (mCX fn ms fun d _ => some (.rt d)) :=
  ⟨fun i => ps_ret (hp i), snd_callX (T := tRet) h hl (fun _ _ _ _ q => q) fun H0 O0 O σ H env d v fl D s hv hgo q => by
    cases hgo
    exact q v H s.ext (dp_ex (cut_less fun a ha => s.sub a ha) hv)⟩
/-- x = f(..) -/
theorem x_callA {n : Nat} {fn : List PyData → Option (PyData ⊕ Str)} {t : TA} {ms : En → Option (List PyData)} {ce : Expr} (F : Fam X K N k) (i : Nat) {x : Str} {pos' : Pos} (hp : ∀ i, PE (X i) ce (tCallS (spX K mg n fn) (WE (W i)) t)) (h : SndA K M t ms) (hl : ∀ env ds, ms env = some ds → ds.length = n) (hi : i ∉ M := by decide) (hx : N[i]? = some x := by rfl) (hlo : ∀ j, Loc (X j).env.scope x := by first | exact fun _ => Or.inl rfl | exact fun _ => Or.inr rfl)
    (hs : ∀ j, swapsWith ce (some (.Name x pos')) pos.line (X j).env = pure false := by exact fun _ => rfl) (hf : ∀ j, (X j).fn x = true ∨ (X j).env.scope.names.lookup x = some .local := by first | exact fun _ => .inl rfl | exact fun _ => .inr rfl) :
    MX X W K mg M (.Assign [.Name x pos'] ce pos) (fun V => tAsg (tCallS (spX K mg n fn) (WE V) t) (gName i)) (mCX fn ms fun d env => some (.nx (env.set i (some d)))) :=
  ⟨fun j => ps_set (by rw [F.hN j]; exact F.nd) (by rw [F.hN j]; exact hx) (hlo j) (hp j) (hs j) (hf j), snd_callX (T := fun u => tAsg u (gName i)) h hl (fun _ _ _ _ q => q) fun H0 O0 O σ H env d v fl D s hv hgo q => by
    cases hgo
    exact q _ H O (s.set hi hv) (Ex.refl _)⟩
end
section
variable {P : Program} {w : World} {K : PySem.W.Frag} {mg : Str → Option Value} {base : Heap} {N : List Str} {M : List Nat}
abbrev defX (P : Program) (w : World) (K : PySem.W.Frag) (mg : Str → Option Value) (base : Heap) (N : List Str) (qual : Str) (sc : Scope) (f : Addr) (j : Nat) : {p : DI // Room j (p.A.deeper (envOfC qual sc p.s.heap.objs.size f p.cdv))} → Cx := fun p => cxOf (L2N.CX P w) P w K mg base N qual sc f p.1.cdv p.1.A p.1.outer p.1.s p.1.H p.1.E
abbrev defW {qual : Str} {sc : Scope} {f : Addr} {j : Nat} : {p : DI // Room j (p.A.deeper (envOfC qual sc p.s.heap.objs.size f p.cdv))} → WX := fun p cls d _ H => p.1.E cls d H
theorem defX_fam {qual : Str} {sc : Scope} {f : Addr} {j : Nat} (nd : N.Nodup) : Fam (defX P w K mg base N qual sc f j) K N j := ⟨fun _ => rfl, fun _ => rfl, fun p => p.2, fun _ => rfl, nd⟩
theorem defX_tk {qual : Str} {sc : Scope} {f : Addr} {j : Nat} : ∀ i, L2N.Takes (defX P w K mg base N qual sc f j i) (defW i) := fun i => L2N.takes_of rfl rfl rfl rfl
/-- a def that may raise, by its body -/
theorem okXN {x qual : Str} {st : Stmt} {f : Addr} {fd : FuncData} {ps : List Str} {k : Nat} {sp : Sp} (F : Fun K x qual st f fd) (S : FnScope N ps (defScope st)) (len : ∀ vs H Q E, sp vs H Q E → vs.length = ps.length)
    (hb : ∀ (cdv : Value) (A : Around) (outer : List Env) (s : Shared) (H : Hp) (vs : List V) (Q : VK) (E : XK), Room k (A.deeper (envOfC qual (defScope st) s.heap.objs.size f cdv)) → sp vs H Q E →
      ∃ t, PSs (cxOf (L2N.CX P w) P w K mg base N qual (defScope st) f cdv A outer s H E) (defBody st) t ∧ t { nx := fun _ H' => Q .non H', rt := Q } (L2.start N vs) H) : FnOk P w K mg base (L2N.CX P w) (k + 1) f fd ps sp := by
  (obtain ⟨oc, od, kV, doc, pm, an, cdv, ct, osl, rfl, lk, hcd⟩ := F.ex)
  exact fn_of lk hcd S len fun A outer s H vs Q E hr hsp => hb cdv A outer s H vs Q E hr hsp
theorem fn_dataX {x qual : Str} {st : Stmt} {f : Addr} {fd : FuncData} {ps : List Str} {j : Nat} {t : WX → TS} {m : En → Option Fx} (F : Fun K x qual st f fd) (S : FnScope N ps (defScope st)) (hM : ∀ i ∈ M, ps.length ≤ i) (h : MXs (defX P w K mg base N qual (defScope st) f j) defW K mg M (defBody st) t m) :
    FnOk P w K mg base (L2N.CX P w) (j + 1) f fd ps (spX K mg ps.length (runX N.length m)) := by
  refine okXN F S (fun vs H Q E hq => ?_) fun cdv A outer s H vs Q E hr hq => ?_
  · obtain ⟨ds, r, O, hl, _⟩ := hq
    exact hl
  · obtain ⟨ds, r, O, hl, ht, hv, hf, q1, q2⟩ := hq
    refine ⟨t fun cls d _ H => E cls d H, h.ps ⟨⟨cdv, A, outer, s, H, E⟩, hr⟩, ?_⟩
    obtain ⟨fx, g1, g2⟩ := bind1 hf
    refine h.sd _ H O O _ H _ fx _ (start_sl (n := N.length) ht hv (by rw [hl]; exact hM)) g1 ?_
    cases fx with
    | fl fl =>
      cases fl with
      | nx env =>
        cases g2
        exact fun σ' H' O' s' _ => q1 _ rfl _ H' s'.ext .non
      | rt r =>
        cases g2
        exact fun v H' e hv => q1 _ rfl v H' e hv
      | bk env => cases g2
      | ct env => cases g2
    | xc c env =>
      cases g2
      exact fun C σ' H' O' hC s' _ => q2 _ rfl C H' hC s'.ext
end

end Rv
namespace Rv
open PySem L2 PySem.Spec PyProof.Rows
/-! The data layer, part N: a caught error handed to a def. -/

/-- the object oe at a, tracked for a call alone -/
def ErO (a : Addr) (oe : Obj) : HO := .ext fun h => h.get? a = some oe
section
variable {X : Cx} {pins : List (Addr × Obj)} {σ : L2.St} {H : Hp} {s s' : Shared} {a : Addr} {oe : Obj} {k : Nat} {f : Addr} {fd : FuncData} {ps : List Str} {sp : Sp} {P : Program} {w : World} {h : Heap}
theorem erO_ok (e : h.get? a = some oe) : ObjOk P w H h a (ErO a oe) := ⟨e, ⟨oe, e⟩, fun _ _ q keep => keep _ q⟩
theorem hok_with (ok : HOk P w H h) (n : H a = none) (e : h.get? a = some oe) : HOk P w (upd H a (ErO a oe)) h := fun b u q => by
  by_cases z : b = a
  · subst z
    rw [upd_same] at q
    cases q
    exact erO_ok e
  · rw [upd_ne z] at q
    have other : ∀ c o, H c = some o → upd H a (ErO a oe) c = some o := fun c o g => by
      rw [upd_ne fun (y : c = a) => by rw [y, n] at g; cases g]
      exact g
    exact (ok b u q).stay (fun _ _ _ g => g) (fun c g => other c _ g) fun c xs g => other c _ g
theorem hok_without (ok : HOk P w H h) (e : H a = some (ErO a oe)) : HOk P w (delH H a) h := fun b u q => by
  by_cases z : b = a
  · subst z
    rw [delH_same] at q
    cases q
  · rw [delH_ne z] at q
    refine (ok b u q).stay (fun _ _ _ g => g) (fun c g => ?_) fun c xs g => ?_
    · rw [delH_ne fun (y : c = a) => by rw [y, e] at g; cases g]
      exact g
    · rw [delH_ne fun (y : c = a) => by rw [y, e] at g; cases g]
      exact g
/-- a def is called; the error that the suite holds is tracked within -/
theorem run_fnE {Q : VK} {us : List Value} {vs : List V} (F : FnOk X.prog X.w X.K X.mg X.base CX0 k f fd ps sp) (hr : Room k X.A) (hb : Binds X.K fd ps []) (I : Inv X pins σ H s) (hp : (a, oe) ∈ X.pn ++ pins) (r : Vals vs us)
    (h1 : sp vs (upd H a (ErO a oe)) (fun v H2 => H2 a = some (ErO a oe) ∧ Q v (delH H2 a)) E0) (h2 : ∀ o, X.base.get? a = some o → sp vs H Q E0) : wpAny (model X.prog X.w) X.A (call (.ref f) us) (EP X pins σ Q) X.xe s := by
  obtain ⟨p1, p2, p3, p4, _⟩ := I.pin _ hp
  have hl : us.length = ps.length := by rw [← r.length]; exact F.len _ _ _ _ h1
  have b := (hb s us I.kIn (by rw [List.append_nil]; exact hl))
  rw [List.append_nil] at b
  cases hbase : X.base.get? a with
  | some o =>
    refine wpAny_call (codeAny_mono (F.run X.A X.stack s H ⟨us, []⟩ us vs Q E0 hr I.env0 b r (h2 o hbase)) fun r s' hq => ?_)
    cases r with
    | error e => (exact False.elim hq)
    | ok fl =>
      cases fl with
      | ret u => exact I.after hq
      | next => exact False.elim hq
      | brk => exact False.elim hq
      | cont => exact False.elim hq
  | none =>
    have e0 := I.env0
    have e1 : Env0 X.prog X.w X.K X.mg X.base X.A X.stack s (upd H a (ErO a oe)) := by
      refine ⟨e0.frames, e0.mod, fun b o g => ?_, e0.bsz, e0.funs, fun b g => ?_, hok_with e0.hok p2 p1, e0.bare⟩
      · have ne : b ≠ a := fun z => by rw [z, hbase] at g; cases g
        rw [upd_ne ne]
        exact e0.bs b o g
      · have ne : b ≠ a := fun z => by
          subst z
          rcases List.mem_cons.mp (I.stkSub b g) with y | y
          · exact p3 y
          · exact p4 y
        rw [upd_ne ne]
        exact e0.frf b g
    refine wpAny_call (codeAny_mono (F.run X.A X.stack s (upd H a (ErO a oe)) ⟨us, []⟩ us vs _ E0 hr e1 b r h1) fun r s' hq => ?_)
    cases r with
    | error e => (exact False.elim hq)
    | ok fl =>
      cases fl with
      | ret u =>
        obtain ⟨v, H2, os, bare, un, hok, rv, g1, g2⟩ := hq
        have s2 : s'.heap.get? a = some oe := (hok a _ g1).1
        have old : ∀ c o, H c = some o → upd H a (ErO a oe) c = some o := fun c o g => by
          rw [upd_ne fun (y : c = a) => by rw [y, p2] at g; cases g]
          exact g
        have un2 : Un (frs X.stack) [] H (delH H2 a) s.heap s'.heap := by
          refine ⟨fun b o q n nf ne => ?_, fun b o q n nf ne => ?_, fun b o q n ne => ?_, un.there, fun b xs q => ?_, fun b o u q => ?_, fun b ps q => ?_⟩
          · by_cases z : b = a
            · subst z
              rw [p1] at q
              cases q
              exact s2
            · exact un.keep b o q (by rw [upd_ne z]; exact n) nf ne
          · by_cases z : b = a
            · subst z
              rw [p1] at q
              cases q
              exact ⟨oe.slots, s2⟩
            · exact un.slot b o q (by rw [upd_ne z]; exact n) nf ne
          · by_cases z : b = a
            · subst z
              exact delH_same
            · rw [delH_ne z]
              exact un.free b o q (by rw [upd_ne z]; exact n) ne
          · have ne : b ≠ a := fun z => by rw [z, p2] at q; cases q
            rw [delH_ne ne]
            exact un.tups b xs (old b _ q)
          · have ne : b ≠ a := fun z => by rw [z, p2] at q; cases q
            rw [delH_ne ne]
            exact un.frzs b o u (old b _ q)
          · have ne : b ≠ a := fun z => by rw [z, p2] at q; cases q
            rw [delH_ne ne]
            exact un.tbls b ps (old b _ q)
        exact I.after ⟨v, delH H2 a, os, bare, un2, hok_without hok g1, rv, g2⟩
      | next => exact False.elim hq
      | brk => exact False.elim hq
      | cont => exact False.elim hq
/-- isinstance(e, c), e an error that is tracked, or lies in the base -/
def rIsEr (K : PySem.W.Frag) (base : Heap) (D a : Addr) (oe : Obj) : List V → Hp → VK → Prop := fun xs H Q => ∃ (c : V) (cv : Value) (b : Bool), xs = [.ref a, c] ∧ (∀ u, RelV c u → u = cv) ∧ PySem.W.kitOne K (.ref D) cv = some b ∧ (H a = some (ErO a oe) ∨ base.get? a = some oe) ∧ Q (.bl b) H
theorem call_isEr {D : Addr} (C : ExcC X.K D) (hz : Zc (.ref D) none oe) (hf : ∃ vs, oe.data = .fields vs) : CallR X (.builtin "isinstance") (rIsEr X.K X.base D a oe) := fun pins s σ H xs us Q I r hh => by
  obtain ⟨c, cv, b, rfl, hcv, e, there, q⟩ := hh
  have hget : s.heap.get? a = some oe := there.elim (fun t => (I.hok a _ t).1) fun t => I.bk a oe t
  match us, r with
  | _, .cons rx (.cons rt .nil) =>
    cases rx
    have ec := hcv _ rt
    subst ec
    have inst : PySem.W.InstAt (Shared.heap s) a oe D none := by
      obtain ⟨vs, hv⟩ := hf
      cases oe with
      | mk oc od oda osl =>
        obtain ⟨z1, z2⟩ := hz
        cases (show oc = .ref D from z1)
        cases (show od = none from z2)
        cases (show oda = .fields vs from hv)
        exact (⟨hget, rfl, rfl, trivial⟩)
    exact PySem.W.kia_one (PySem.W.handS_kitx_exc C.hg C.hk C.hs C.hd C.ha C.hn C.ht C.hm) I.kIn inst e (fun z => nomatch z) fun tk => ⟨V.bl b, H, I.kept (t' := tk) (fun _ _ z => z), rfl, q⟩
end
theorem line_two : [V.str (Str.ofString ""), V.bl true].length ≤ sizeLine := Nat.le_trans (show 2 ≤ 100000 by decide) (by decide)
/-! ### a display of pairs (a name, isinstance(e, C)) in a def that is handed the error e -/
structure ME {ι : Type} (X : ι → Cx) (K : PySem.W.Frag) (base : Heap) (a : Addr) (oe : Obj) (es : List Expr) (t : TA) (L : List PyData) : Prop where
  pa : ∀ i, PA (X i) es t
  sd : ∀ σ H (Q : List V → Hp → Prop), σ[0]? = some (some (.ref a)) → (H a = some (ErO a oe) ∨ base.get? a = some oe) → (∀ vs H2, Ex H H2 → DpAll K H2 vs L → Q vs H2) → t σ H Q
section
variable {ι : Type} {X : ι → Cx} {K : PySem.W.Frag} {N : List Str} {k : Nat} {base : Heap} {a : Addr} {oe : Obj}
theorem me_nil : ME X K base a oe [] tNil [] := ⟨fun _ => pa_nil, fun σ H Q _ _ q => q [] H (Ex.refl H) .nil⟩
theorem me_cons {es : List Expr} {t : TA} {L : List PyData} {D : Addr} {n x cn : Str} {b : Bool} {cv : V} {u : Value} {j x1 : Nat} {p1 p2 p3 p4 p5 p6 : Pos} (F : Fam X K N k) (hbase : ∀ i, (X i).base = base) (EC : ExcC K D) (hz : Zc (.ref D) none oe) (hf : ∃ vs, oe.data = .fields vs)
    (hc : ∀ i, PE (X i) (.Name cn p4) (tC cv)) (hu : ∀ u', RelV cv u' → u' = u) (hkit : PySem.W.kitOne K (.ref D) u = some b) (hm : ∀ i, (X i).mg "isinstance" = none) (r : ME X K base a oe es t L)
    (he : ∀ i, PE (X i) (.Name x p3) (tVar 0) := by exact fun _ => pv _) (hg : ∀ i, Gl (X i) "isinstance" := by exact fun _ => rfl)
    (s1 : ∀ i, starEach [.Name x p3, .Name cn p4] (X i).env = (false, eval (.Name x p3) (X i).env) :: starEach [.Name cn p4] (X i).env := by exact fun _ => rfl) (s2 : ∀ i, starEach [.Name cn p4] (X i).env = (false, eval (.Name cn p4) (X i).env) :: starEach [] (X i).env := by exact fun _ => rfl)
    (s3 : ∀ i, (backTo p5 (starEach [.Name cn p4] (X i).env)).any (·.1) = false := by exact fun _ => rfl)
    (s4 : ∀ i, starEach (.Tuple [.Constant (.str n) j p1, .Call (.Name "isinstance" p2) [.Name x p3, .Name cn p4] [] p5] x1 p6 :: es) (X i).env = (false, eval (.Tuple [.Constant (.str n) j p1, .Call (.Name "isinstance" p2) [.Name x p3, .Name cn p4] [] p5] x1 p6) (X i).env) :: starEach es (X i).env := by exact fun _ => rfl)
    (s5 : ∀ i, starEach [.Constant (.str n) j p1, .Call (.Name "isinstance" p2) [.Name x p3, .Name cn p4] [] p5] (X i).env = (false, eval (.Constant (.str n) j p1) (X i).env) :: starEach [.Call (.Name "isinstance" p2) [.Name x p3, .Name cn p4] [] p5] (X i).env := by exact fun _ => rfl)
    (s6 : ∀ i, starEach [.Call (.Name "isinstance" p2) [.Name x p3, .Name cn p4] [] p5] (X i).env = (false, eval (.Call (.Name "isinstance" p2) [.Name x p3, .Name cn p4] [] p5) (X i).env) :: starEach [] (X i).env := by exact fun _ => rfl) :
    ME X K base a oe (.Tuple [.Constant (.str n) j p1, .Call (.Name "isinstance" p2) [.Name x p3, .Name cn p4] [] p5] x1 p6 :: es) (tCons (tTup (tCons (tC (.str n)) (tCons (tCB (rIsEr K base D a oe) (tCons (tVar 0) (tCons (tC cv) tNil))) tNil))) t) (.tuple [.str n, .bool b] :: L) :=
  ⟨fun i => by
    have cr : CallR (X i) (.builtin "isinstance") (rIsEr K base D a oe) := by
      have := call_isEr (X := X i) (a := a) (oe := oe) (D := D) (by rw [F.hK i]; exact EC) hz hf
      rw [F.hK i, hbase i] at this
      exact this
    exact pa_cons (pe_tup (pa_cons pe_str (pa_cons (pe_callB cr (hg i) (hm i) rfl (pa_cons (he i) (pa_cons (hc i) pa_nil (s2 i)) (s1 i)) (by decide) (by decide) (s1 i) (s3 i)) pa_nil (s6 i)) (s5 i))) (r.pa i) (s4 i),
  fun σ H Q h0 h1 q => by
    refine ⟨.ref a, h0, cv, u, b, rfl, hu, hkit, h1, ?_, fun p hp => ?_⟩
    · exact line_two
    · have e1 : Ex H (upd H p (.tup [V.str n, V.bl b])) := Ex.new hp
      refine r.sd σ _ _ h0 (h1.imp (fun z => e1 _ _ z) fun z => z) fun vs H2 e2 hv => q _ H2 (e1.trans e2) (.cons (.tup (.inl (.inl (e2 _ _ upd_same))) (.cons (.str n) (.cons (.bl b) .nil))) hv)⟩
end
section
variable {P : Program} {w : World} {K : PySem.W.Frag} {mg : Str → Option Value} {base : Heap} {N : List Str}
/-- what such a def promises: handed an error of the class D it answers d -/
def spEr (K : PySem.W.Frag) (base : Heap) (D : Addr) (d : PyData) : Sp := fun vs H Q _ => ∃ a oe, vs = [V.ref a] ∧ (H a = some (ErO a oe) ∨ base.get? a = some oe) ∧ Zc (.ref D) none oe ∧ (∃ fs, oe.data = .fields fs) ∧ ∀ v H2, Ex H H2 → Dp K H2 v d → Q v H2
theorem cut_nil {H : Hp} : cut H [] = H := funext fun a => cut_out (fun h => by cases h)
theorem dp_new {H : Hp} {p : Addr} {vs : List V} {L : List PyData} (hp : H p = none) (h : DpAll K H vs L) : Dp K (upd H p (.lst vs)) (.ref p) (.list L) := .lst (.inl (.inl upd_same)) (dpAll_ex (Ex.new hp) h)
theorem fn_kin {x qual y : Str} {st : Stmt} {f D : Addr} {fd : FuncData} {j : Nat} {es : List Expr} {rest : List Stmt} {py lp ap : Pos} {L : List PyData} {d : PyData} {u : TS} {m : En → Option Fl} (F : Fun K x qual st f fd) (S : FnScope N [("e" : Str)] (defScope st)) (hb : defBody st = .Assign [.Name y py] (.List es lp) ap :: rest)
    (h1 : ∀ a oe, Zc (.ref D) none oe → (∃ fs, oe.data = .fields fs) → ∃ t, ME (defF P w K mg base N qual (defScope st) f j) K base a oe es t L) (hL : L.length ≤ sizeLine) (hy : N[1]? = some y) (h2 : MSs (defF P w K mg base N qual (defScope st) f j) K [] rest u m)
    (hm : m (none :: some (.list L) :: List.replicate (N.length - 2) none) = some (.rt d))
    (hlo : ∀ i, Loc (defF P w K mg base N qual (defScope st) f j i).env.scope y) (hs : ∀ i, swapsWith (.List es lp) (some (.Name y py)) ap.line (defF P w K mg base N qual (defScope st) f j i).env = pure false) (hf : ∀ i, (defF P w K mg base N qual (defScope st) f j i).fn y = true ∨ (defF P w K mg base N qual (defScope st) f j i).env.scope.names.lookup y = some .local) :
    FnOk P w K mg base CX0 (j + 1) f fd [("e" : Str)] (spEr K base D d) := by
  refine F.ok S (fun vs H Q E hq => ?_) fun cdv A outer s H vs Q E hr hq => ?_
  · obtain ⟨a, oe, rfl, _⟩ := hq
    rfl
  · obtain ⟨a, oe, rfl, there, hz, hfs, q⟩ := hq
    obtain ⟨t, me⟩ := h1 a oe hz hfs
    rw [hb]
    refine ⟨_, pss_cons (ps_set S.nd hy (hlo ⟨⟨cdv, A, outer, s, H, E⟩, hr⟩) (pe_lst (me.pa ⟨⟨cdv, A, outer, s, H, E⟩, hr⟩)) (hs ⟨⟨cdv, A, outer, s, H, E⟩, hr⟩) (hf ⟨⟨cdv, A, outer, s, H, E⟩, hr⟩)) (h2.ps ⟨⟨cdv, A, outer, s, H, E⟩, hr⟩), ?_⟩
    obtain ⟨n, hn⟩ : ∃ n, N.length = n + 2 := by
      have := (List.getElem?_eq_some_iff.mp hy).1
      exact ⟨N.length - 2, by omega⟩
    refine me.sd _ H _ rfl there fun ws H1 e1 hw => ⟨by rw [dpAll_len hw]; exact hL, fun p hp => ?_⟩
    have sl : Sl K [] H [] [] (L2.start N [V.ref a]) (upd H1 p (.lst ws)) (List.replicate N.length none) := by
      refine ⟨e1.trans (Ex.new hp), fun l h => (by cases h), fun l h => (by cases h), fun l h => (by cases h), fun i d' h _ => ?_, fun i d' h _ => ?_, fun i j d' e' l hi => (by cases hi), ?_⟩
      · rw [List.getElem?_replicate] at h
        split at h <;> cases h
      · rw [List.getElem?_replicate] at h
        split at h <;> cases h
      · unfold L2.start
        rw [List.length_append, List.length_map, List.length_replicate, List.length_replicate, List.length_singleton]
        omega
    have sl2 := sl.set (i := 1) (v := .ref p) (d := .list L) (fun h => by cases h) (by
      rw [cut_nil]
      exact dp_new hp hw)
    refine h2.sd H [] [] _ _ _ (.rt d) _ sl2 ?_ fun v H' e' hv => q v H' e' (by
      rw [cut_nil] at hv
      exact hv)
    rw [← hm, hn]
    rfl
end

end Rv
namespace Rv
open PySem L2 PySem.Spec PyProof.Rows
/-! The data layer, part O: sorted of tuples the first of which is empty. -/
section
open PySem.W PySem.SeqAt
variable {P : Program} {w : World} {A : Around} {E : Value → Shared → Prop} {st : Shared}
/-- tuple's own <, as sorting asks it -/
theorem tup_lt_call {Q : Value → Shared → Prop} {p q : Addr} {xs ys : Array Value} {same less : Nat → Bool} (hp : st.heap.IsTuple p xs) (hq : st.heap.IsTuple q ys)
    (he : ∀ j (h1 : j < xs.size) (h2 : j < ys.size), EqAt A.in1 st xs[j] ys[j] (same j)) (hr : ∀ j (h1 : j < xs.size) (h2 : j < ys.size), same j = false → RcLt A.in1 st xs[j] ys[j] (less j))
    (goal : Q (.bool (firstLt same less (decide (xs.size < ys.size)) (List.range (min xs.size ys.size)))) st) :
    wpAny (model P w) A (call (.builtin "tuple.__lt__") [.ref p, .ref q]) Q E st := by
  obtain ⟨⟨c1, d1, data1, s1⟩, at1, k1, n1, e1⟩ := id hp
  obtain ⟨⟨c2, d2, data2, s2⟩, at2, k2, n2, e2⟩ := id hq
  simp only at k1 e1 k2 e2
  subst k1 e1 k2 e2
  exact call_meets F.slot_tuple_lt ⟨_, at1, rfl⟩ F.entry_tuple_lt (F.args_tuple_lt_2 _ _) (tuple_ltAt p q xs ys n1 n2 d1 d2 s1 s2 same less) ⟨at1, at2, he, hr, goal⟩
theorem one_tup {xs ys : List PyData} {a b : Value} {as bs : List Addr} {Q : Bool → Shared → Prop} (ra : Reads st.heap a (.tuple xs) as) (rb : Reads st.heap b (.tuple ys) bs) (same : alikeAll xs ys = true) (hu : A.units + min (PyData.tuple xs).depth (PyData.tuple ys).depth < cLine)
    (goal : Q (dataLt (.tuple xs) (.tuple ys)) st) : wpAny (model P w) A (oneLt' true a b) Q E st := by
  cases ra with
  | @tuple l o vs n _ as1 g1 g2 g3 g4 =>
    cases rb with
    | @tuple l2 o2 ws m _ bs1 f1 f2 f3 f4 =>
      have n1 : vs.size = xs.length := by simpa using (ReadsAll.length _ _ _ g4)
      have n2 : ws.size = ys.length := by simpa using (ReadsAll.length _ _ _ f4)
      rw [dataLt_tuple, ← firstLt_toks xs ys same, ← n1, ← n2] at goal
      rw [oneLt'_eq]
      simp only [if_true]
      (refine wpAny_bind (wpAny_cRoomFor (room_here hu) ?_))
      refine wpAny_bind (wpAny_callSpecialIfBound?_slot (T := "tuple") ⟨_, g1, g2⟩ F.slot_tuple_lt (tup_lt_call (same := pairEq xs ys) (less := fun j => dataLt (xs.getD j .none) (ys.getD j .none)) ⟨_, g1, g2, _, g3⟩ ⟨_, f1, f2, _, f3⟩ (fun j j1 j2 => ?_) (fun j j1 j2 hj => ?_) ?_))
      · have z := eqAt_alikeAll xs ys A.in1 st vs.toList ws.toList _ _ g4 f4 same (room_in hu) j (by simpa using j1) (by simpa using j2)
        simpa using z
      · have z := rcLt_alikeAll xs ys A.in1 st vs.toList ws.toList _ _ g4 f4 same (room_in hu) j (by simpa using j1) (by simpa using j2) hj
        simpa using z
      · exact wpAny_truthy_bool goal
/-- the first items of tuples, none of an empty one -/
theorem firsts_of {M : Model} : ∀ {vs : List Value} {ds : List PyData}, EachIs (fun v d => ∃ as, Reads st.heap v d as) vs ds → (∀ d ∈ ds, ∃ xs, d = PyData.tuple xs) →
    ∃ fs : List (Option Value), (ds.head? = some (.tuple []) → fs.head? = some none) ∧ ∀ Q : List (Option Value) → Shared → Prop, Q fs st → wpAny M A (vs.mapM firstOfTuple') Q E st
  | _, _, .nil, _ => ⟨[], fun h => (by cases h), fun Q q => by
    rw [List.mapM_nil]
    exact wpAny_pure q⟩
  | _, _, .cons (b := d) h1 h2, ht => by
    obtain ⟨fs, _, go⟩ := firsts_of (M := M) h2 fun d hd => ht d (List.mem_cons_of_mem _ hd)
    obtain ⟨xs, rfl⟩ := ht d List.mem_cons_self
    obtain ⟨as, r⟩ := h1
    cases r with
    | @tuple a o us n _ _ g1 g2 g3 g4 =>
      refine ⟨us[0]? :: fs, fun h => ?_, fun Q q => ?_⟩
      · have e : xs = [] := by
          have e1 := Option.some.inj h
          injection e1
        subst e
        have : us.toList = [] := by
          cases hu : us.toList with
          | nil => rfl
          | cons x y =>
            rw [hu] at g4
            cases g4
        have e2 : us[0]? = none := by
          rw [← Array.getElem?_toList, this]
          rfl
        rw [e2]
        rfl
      · rw [List.mapM_cons]
        refine wpAny_bind ?_
        rw [kas_first_eq]
        refine wpAny_bind (Looks.here (show Looks M st.heap (typeOf (.ref a)) o.cls from (Looks.ld g1).andThen .now) ?_)
        rw [g2, if_neg (by first | decide | simp)]
        refine wpAny_bind (listItems_at g1 g3 (wpAny_pure ?_))
        exact wpAny_bind (go (fun bs s2 => wpAny M A (pure (us[0]? :: bs)) Q E s2) (wpAny_pure q))
theorem kind_tup0 {M : Model} {vs : List Value} {ds : List PyData} {Q : SortKind → Shared → Prop} (e : EachIs (fun v d => ∃ as, Reads st.heap v d as) vs (.tuple [] :: ds)) (ht : ∀ d ∈ ds, ∃ xs, d = PyData.tuple xs) (goal : Q oneType' st) : wpAny M A (keyKind' vs.toArray) Q E st := by
  have ht2 : ∀ d ∈ PyData.tuple [] :: ds, ∃ xs, d = PyData.tuple xs := fun d hd => by
    rcases List.mem_cons.mp hd with z | z
    · exact ⟨[], z⟩
    · exact ht d z
  obtain ⟨fs, h0, go⟩ := firsts_of (M := M) (A := A) (E := E) e ht2
  have h0 := h0 rfl
  obtain ⟨fr, rfl⟩ : ∃ fr, fs = none :: fr := by
    cases fs with
    | nil => cases h0
    | cons f fr =>
      have : f = none := Option.some.inj h0
      exact ⟨fr, by rw [this]⟩
  have ty : ∀ v ∈ vs, Looks M st.heap (typeOf v) (.type "tuple") := fun v hv => by
    (obtain ⟨d, hd, as, r⟩ := e.left v hv)
    obtain ⟨xs, rfl⟩ := ht2 d hd
    exact looks_reads r
  obtain ⟨v1, rest, rfl⟩ : ∃ v1 rest, vs = v1 :: rest := by
    cases e with
    | cons _ _ => exact ⟨_, _, rfl⟩
  (rw [keyKind'_eq, List.mapM_toArray, map_eq_pure_bind])
  refine wpAny_bind (wpAny_bind (go _ (wpAny_pure ?_)))
  (rw [if_neg (by simp), if_neg (by simp)])
  (rw [oneTypeOnly'_eq, List.mapM_toArray, map_eq_pure_bind])
  refine wpAny_bind (wpAny_bind (wpAny_bind (kas_mapM (r := Value.type "tuple") _ (fun v hv Q' hq => (ty v hv).here hq) (wpAny_pure ?_))))
  have all_ : ((List.map (fun _ => Value.type "tuple") (v1 :: rest)).toArray.all fun x => x == Value.type "tuple") = true := by
    rw [List.all_toArray, List.all_map]
    (exact List.all_eq_true.mpr fun _ _ => rfl)
  have fst_ : (List.map (fun _ => Value.type "tuple") (v1 :: rest)).toArray[0]? = some (Value.type "tuple") := by simp
  rw [fst_]
  simp only [all_, if_true]
  exact wpAny_pure (wpAny_pure goal)
theorem sorts_tup0 {vs : List Value} {ds : List PyData} (e : EachIs (fun v d => ∃ as, Reads st.heap v d as) vs (.tuple [] :: ds)) (same : AllAlike (.tuple [] :: ds)) (ht : ∀ d ∈ ds, ∃ xs, d = PyData.tuple xs) (flat : ∀ d ∈ PyData.tuple [] :: ds, A.units + d.depth < cLine) :
    SortsAt P w A st (dataKind st.heap (.tuple [] :: ds)) vs := by
  have ht2 : ∀ d ∈ PyData.tuple [] :: ds, ∃ xs, d = PyData.tuple xs := fun d hd => by
    rcases List.mem_cons.mp hd with z | z
    · exact ⟨[], z⟩
    · exact ht d z
  refine ⟨fun v hv => ?_, oneType', ?_, fun _ E Q hq => kind_tup0 e ht hq⟩
  · (obtain ⟨d, hd, as, r⟩ := e.left v hv)
    exact ⟨_, dataKind_some same hd r⟩
  · intro E x y a b Q ha hb hq
    (obtain ⟨d, as, hd, ra, rfl⟩ := dataKind_inv ha)
    obtain ⟨d2, as2, hd2, rb, rfl⟩ := dataKind_inv hb
    have al := same d hd d2 hd2
    have fl := flat d hd
    obtain ⟨xs, rfl⟩ := ht2 d hd
    obtain ⟨ys, rfl⟩ := ht2 d2 hd2
    rw [keyLt'_oneType]
    refine one_tup ra rb (by simpa [alike] using al) (Nat.lt_of_le_of_lt (Nat.add_le_add_left (Nat.min_le_left _ _) _) fl) hq
end
/-! sorted of such a list -/
open PySem.W in
def rSort0 (K : PySem.W.Frag) : List V → Hp → VK → Prop := fun vs H Q => ∃ (a : Addr) (v0 : V) (bs : List (V × PyData)), vs = [.ref a] ∧ SqL K H a (v0 :: bs.map Prod.fst) ∧ Dp K H v0 (.tuple []) ∧ (∀ b ∈ bs, Dp K H b.1 b.2) ∧ AllAlike (.tuple [] :: bs.map Prod.snd) ∧ (∀ b ∈ bs, ∃ xs, b.2 = PyData.tuple xs) ∧ (∀ b ∈ bs, b.2.depth ≤ 64) ∧
  ∀ p, H p = none → Q (.ref p) (upd H p (.lst ((((v0, PyData.tuple []) :: bs).mergeSort (dataLe false Prod.snd)).map Prod.fst)))
section
open PySem.W
variable {P : Program} {w : World} {A : Around} {E : Value → Shared → Prop} {st : Shared}
theorem sorted0 {β : Type} {R : Value → β → Prop} {enc : β → PyData} {l : Addr} {us : List Value} {b0 : β} {bs : List β} {Q : Value → Shared → Prop} (hl : st.heap.IsList l us.toArray) (e : EachIs R us (b0 :: bs)) (er : EachIs (fun v b => ∃ as, Reads st.heap v (enc b) as) us (b0 :: bs)) (h0 : enc b0 = .tuple [])
    (same : AllAlike ((b0 :: bs).map enc)) (ht : ∀ b ∈ bs, ∃ xs, enc b = PyData.tuple xs) (few : (b0 :: bs).length ≤ sizeLine) (flat : ∀ b ∈ b0 :: bs, A.units + 2 + (enc b).depth < cLine)
    (goal : ∀ out, EachIs R out ((b0 :: bs).mergeSort (dataLe false enc)) → Q (.ref (st.heap.objs.size + 1)) { st with heap := sortedAll st.heap us (List.toArray out) }) :
    wpAny (model P w) A (call (.builtin "sorted") [.ref l]) Q E st := by
  have few2 : us.length ≤ sizeLine := by
    rw [e.length]
    exact few
  have late : EachIs (fun v b => ∃ as, Reads (sortingHeap (copyHeap st.heap us) (st.heap.objs.size + 1) us) v (enc b) as) us (b0 :: bs) := er.mono fun _ _ z => by
    obtain ⟨as, r⟩ := z
    exact ⟨as, PyProof.Rows.Reads.keeps (fun _ _ => sorting_copy_old) r⟩
  have maps : (b0 :: bs).map enc = .tuple [] :: bs.map enc := by rw [List.map_cons, h0]
  have each := each_map (R := fun v d => ∃ as, Reads (sortingHeap (copyHeap st.heap us) (st.heap.objs.size + 1) us) v d as) enc late
  have fl : ∀ d ∈ (b0 :: bs).map enc, A.in1.in1.units + d.depth < cLine := fun d hd => by
    (obtain ⟨b, hb, rfl⟩ := List.mem_map.mp hd)
    exact flat b hb
  have sorts : SortsAt P w A.in1.in1 { st with heap := sortingHeap (copyHeap st.heap us) (st.heap.objs.size + 1) us } (dataKind (sortingHeap (copyHeap st.heap us) (st.heap.objs.size + 1) us) ((b0 :: bs).map enc)) us := by
    rw [maps] at each fl same ⊢
    exact sorts_tup0 (st := { st with heap := sortingHeap (copyHeap st.heap us) (st.heap.objs.size + 1) us }) each same (fun d hd => by
      (obtain ⟨b, hb, rfl⟩ := List.mem_map.mp hd)
      exact ht b hb) fl
  exact sorted_vals hl sorts few2 (goal _ (sortVals_data false e late same))
end
theorem cr_sort0 {X : Cx} {K : PySem.W.Frag} (hK : X.K = K) (hu : X.A.units + 70 < cLine) : CallR X (.builtin "sorted") (rSort0 K) := by
  subst hK
  refine fun _ st _ H vs us _ inv rel wish => ?_
  obtain ⟨a, v0, bs, rfl, there, read0, reads, same, tups, flat, next⟩ := wish
  obtain ⟨only, rfl, is⟩ := vals1 rel
  cases is
  obtain ⟨its, rv, plain, size⟩ := inv.list there
  have each : PySem.W.EachIs (fun u (b : V × PyData) => RelV b.1 u) its ((v0, PyData.tuple []) :: bs) := each_vals (bs := (v0, PyData.tuple []) :: bs) rv
  have few : ((v0, PyData.tuple []) :: bs).length ≤ sizeLine := by simpa only [List.length_cons, List.length_map] using size
  have each2 := each_and (S := fun u (b : V × PyData) => ∃ as, Reads st.heap u b.2 as) each fun u b hm hr => by
    rcases List.mem_cons.mp hm with z | z
    · subst z
      exact Dp.reads inv (.tuple []) v0 u read0 hr
    · exact Dp.reads inv b.2 b.1 u (reads b z) hr
  refine sorted0 (R := fun u (b : V × PyData) => RelV b.1 u) (enc := Prod.snd) plain.isList each each2 rfl same tups few (fun b hb => ?_) fun out is => ?_
  · have small : b.2.depth ≤ 64 := by
      (rcases List.mem_cons.mp hb with z | z)
      · subst z
        simp [PyData.depth, PyData.depthAll]
      · exact flat b z
    omega
  · obtain ⟨n, laid⟩ := PyProof.Rows.sortedAll_at st.heap its out.toArray
    have okNew : (((((v0, PyData.tuple []) :: bs).mergeSort (PySem.W.dataLe false Prod.snd)).map Prod.fst).length ≤ sizeLine) := by
      simp only [List.length_map, List.length_mergeSort]
      exact few
    have inv2 := inv.laid (o := .lst ((((v0, PyData.tuple []) :: bs).mergeSort (PySem.W.dataLe false Prod.snd)).map Prod.fst)) (t' := st.toks) (fun _ _ q => PyProof.Rows.sortedAll_old (vs := its) (out := out.toArray) q) (Nat.le_succ _) ⟨okNew, out, n, vals_each is, laid⟩
    exact ⟨.ref (st.heap.objs.size + 1), _, inv2, rfl, next _ (inv.hok.fresh (Nat.le_succ _))⟩
def isTup : PyData → Bool
  | .tuple _ => true
  | _ => false
theorem isTup_ok {d : PyData} (h : isTup d = true) : ∃ xs, d = .tuple xs := by
  cases d with
  | tuple xs => exact ⟨xs, rfl⟩
  | _ => cases h
/-- sorted, the first item an empty tuple too -/
def sortE (xs : List PyData) : Option PyData := match xs with
  | .tuple [] :: r => if PySem.W.AllAlike (.tuple [] :: r) ∧ r.all isTup = true ∧ depthOk r = true then some (.list ((PyData.tuple [] :: r).mergeSort (PySem.W.dataLe false id))) else none
  | xs => sortL xs
def bSortE : List PyData → Option PyData
  | [.list xs] => sortE xs
  | [.tuple xs] => sortL xs
  | _ => none
def rSortE (K : PySem.W.Frag) : List V → Hp → VK → Prop := fun vs H Q => rSortK K vs H Q ∨ rSort0 K vs H Q
theorem cr_sortE {X : Cx} {K : PySem.W.Frag} (hK : X.K = K) (hu : X.A.units + 70 < cLine) : CallR X (.builtin "sorted") (rSortE K) := fun pins st σ H vs us Q inv rel wish => by
  rcases wish with wish | wish
  · exact cr_sortK hK hu pins st σ H vs us Q inv rel wish
  · exact cr_sort0 hK hu pins st σ H vs us Q inv rel wish
theorem crd_sortE {K : PySem.W.Frag} : CrD K (rSortE K) bSortE := fun H O vs ds d ht h hf Q q => by
  unfold bSortE at hf
  split at hf
  · rename_i xs
    unfold sortE at hf
    split at hf
    · rename_i r
      right
      obtain ⟨v, rfl, h1⟩ := dq1 h
      obtain ⟨a, ys, rfl, s1, a1⟩ := h1.list
      obtain ⟨⟨c1, c2, c3⟩, e⟩ := ite_some hf
      subst e
      cases a1 with
      | cons b1 b2 =>
        rename_i v0 ws
        obtain ⟨z1, z2, z3⟩ := zip_fst b2
        refine ⟨a, v0, ws.zip r, rfl, by rw [z1]; exact s1, dp_ex cut_ex b1, fun b hb => dp_ex cut_ex (z3 b hb), by rw [z2]; exact c1, fun b hb => ?_, fun b hb => ?_, fun p hp => q _ _ (Ex.new hp) (new_list ht hp ?_)⟩
        · refine isTup_ok (List.all_eq_true.mp c2 _ ?_)
          rw [← z2]
          exact List.mem_map.mpr ⟨b, hb, rfl⟩
        · have : b.2 ∈ r := by
            rw [← z2]
            exact List.mem_map.mpr ⟨b, hb, rfl⟩
          exact of_decide_eq_true (List.all_eq_true.mp c3 _ this)
        · have e2 : (PyData.tuple [] :: r).mergeSort (PySem.W.dataLe false id) = (((v0, PyData.tuple []) :: ws.zip r).mergeSort (PySem.W.dataLe false Prod.snd)).map Prod.snd := by
            have := PySem.W.sort_maps (r := PySem.W.dataLe false Prod.snd) (s := PySem.W.dataLe false id) (Prod.snd : V × PyData → PyData) (l := (v0, PyData.tuple []) :: ws.zip r) (fun _ _ _ _ => rfl)
            rw [this, List.map_cons, z2]
          rw [e2]
          refine dpAll_of_zip _ fun b hb => ?_
          rcases List.mem_cons.mp (List.mem_mergeSort.mp hb) with z | z
          · subst z
            exact b1
          · exact z3 b z
    · exact .inl (crd_sorted H O vs _ d ht h hf Q q)
  · exact .inl (crd_sorted H O vs _ d ht h hf Q q)
  · cases hf

end Rv
namespace Rv
open PySem L2 PySem.Spec PyProof.Rows
/-! The data layer, part P: within an except suite: the end of a walk, unpacking, a comprehension. -/
section
open HotX
variable {P : Program} {w : World} {A : Around} {s : Shared} {E : Value → Shared → Prop}
/-- the new error that ends a walk: where it lies, and that all else stays -/
theorem stop_new {Q : Value → Shared → Prop} (goal : ∀ (a : Addr) (g : Heap) (oe : Obj) (vs : Array Value), (∀ b o, s.heap.get? b = some o → g.get? b = some o ∧ b ≠ a) → g.get? a = some oe → oe.cls = .type "StopIteration" → oe.data = .fields vs → 2 < vs.size → Q (.ref a) { s with heap := g }) :
    wpAny (model P w) A (newExc (.type "StopIteration") []) Q E s := by
  unfold newExc newTuple
  refine wpAny_bind (wpAny_newObj_type (wpAny_bind (m := firstArgMember _ _) (wpAny_of_eq (a := Value.none) rfl (wpAny_newObj_type ?_ (by size_fits)))) (by size_fits))
  refine goal _ _ _ _ (fun b o e => ?_) (Heap.get?_push_size _ rfl) rfl rfl (by simp; omega)
  have two := Heap.get?_push_of_some { cls := Value.type "tuple", data := Data.seq ([] : List Value).toArray } e
  exact ⟨Heap.get?_push_of_some _ two, Nat.ne_of_lt (Heap.lt_size two)⟩
/-- it is raised with the handled error as its context -/
theorem stop_hot {α : Type} {x1 : Addr} {Q : α → Shared → Prop} (hot : HotAt A x1 s.heap)
    (goal : ∀ (a : Addr) (g : Heap), (∀ b o, s.heap.get? b = some o → g.get? b = some o) → ({ s with heap := g } : Shared).TypeIs (.ref a) "StopIteration" → E (.ref a) { s with heap := g }) :
    wpAny (model P w) A (Builtin.SmallTypes.stopIteration : Sem α) Q E s := by
  obtain ⟨hh, o1, vs1, b1, c1, d1⟩ := hot
  unfold Builtin.SmallTypes.stopIteration
  refine wpAny_bind (stop_new fun a g oe vs keep at_ cls dat big => ?_)
  obtain ⟨ce, de, fe, se⟩ := oe
  cases dat
  cases cls
  refine raiseNew_hot (x1 := x1) ⟨hh, o1, vs1, (keep _ _ b1).1, c1, d1⟩ (keep _ _ b1).2 at_ rfl big (goal a _ (fun b o e => ?_) ⟨_, Heap.get?_update_self _ at_ rfl, rfl⟩)
  exact (Heap.get?_update_other _ _ (Ne.symm (keep _ _ e).2)).trans (keep _ _ e).1
/-- the handled error is no iterator: an iterator has two fields -/
theorem hot_away {x1 it : Addr} {o : Obj} {u v : Value} (hot : HotAt A x1 s.heap) (at_ : s.heap.get? it = some o) (dat : o.data = .fields #[u, v]) : x1 ≠ it := fun z => by
  obtain ⟨_, o1, vs1, b1, c1, d1⟩ := hot
  rw [z, at_] at b1
  cases b1
  rw [dat] at c1
  cases c1
  simp at d1
/-- what is known of the handled error stays while other objects change -/
theorem hot_stay {h h2 : Heap} {x1 : Addr} (hot : HotAt A x1 h) (keep : ∀ o, h.get? x1 = some o → h2.get? x1 = some o) : HotAt A x1 h2 := by
  obtain ⟨a, o1, vs1, b, c, d⟩ := hot
  exact ⟨a, o1, vs1, keep _ b, c, d⟩
theorem next_list_hot {it l x1 : Addr} {i : Nat} {items : Array Value} {Q : Option Value → Shared → Prop} (hot : HotAt A x1 s.heap) (hit : s.heap.IsListIter it l i) (hl : s.heap.IsList l items) (hx : items[i]? = none)
    (goal : ∀ h2, Heap.ExtBut it s.heap h2 → Q none { s with heap := h2 }) : wpAny (model P w) A (pyNext (.ref it)) Q E s := by
  obtain ⟨oi, at1, c1, f1⟩ := id hit
  obtain ⟨os, at2, c2, n2, f2⟩ := hl
  have same := Heap.SameBut.update s.heap it (Obj.mapFields (·.setIfInBounds 0 .none))
  unfold pyNext
  refine wpAny_bind (wpAny_attempt (wpAny_callSpecial?_slot (name := Str.ofString "__next__") hit.typeIs slot_listiter_next (wpAny_call_entry slot_listiter_next hit.typeIs entry_listiter_next ?_ (args_listiter_next _))))
  refine (show wpAny _ _ (field (.ref _) 0 >>= _) _ _ _ from wpAny_bind (wpAny_field at1 f1 rfl ?_))
  refine (show wpAny _ _ (ite ((Value.ref _ == Value.none) = true) _ _) _ _ _ from (if_neg Bool.false_ne_true).symm ▸ ?_)
  refine (show wpAny _ _ (field (.ref _) 1 >>= _) _ _ _ from wpAny_bind (wpAny_field at1 f1 rfl ?_))
  refine (show wpAny _ _ (seqItems? (.ref _) >>= _) _ _ _ from wpAny_bind (wpAny_seqItems at2 f2 ?_))
  simp only [hx, Int.toNat_natCast]
  refine wpAny_bind (wpAny_rule (wpAny_bind (wpAny_setField at1 f1 (by simp) ?_)))
  refine stop_hot (hot_stay hot fun o e => (same.2 x1 (hot_away hot at1 f1)).trans e) fun a g keep ty => ?_
  exact wpAny_bind (wpAny_isInstance (b := true) ty isSubtype_stop (wpAny_pure (goal g fun b o hb e => keep b o ((same.2 b hb).trans e))))
theorem next_tup_hot {it l x1 : Addr} {i : Nat} {items : Array Value} {Q : Option Value → Shared → Prop} (hot : HotAt A x1 s.heap) (hit : IsTupIter s.heap it l i) (hl : IsTup s.heap l items) (hx : items[i]? = none)
    (goal : ∀ h2, Heap.ExtBut it s.heap h2 → Q none { s with heap := h2 }) : wpAny (model P w) A (pyNext (.ref it)) Q E s := by
  obtain ⟨oi, at1, c1, f1⟩ := id hit
  obtain ⟨os, at2, c2, n2, f2⟩ := hl
  have same := Heap.SameBut.update s.heap it (Obj.mapFields (·.setIfInBounds 0 .none))
  unfold pyNext
  refine wpAny_bind (wpAny_attempt (wpAny_callSpecial?_slot (name := Str.ofString "__next__") hit.typeIs slot_tupleiter_next (wpAny_call_entry slot_tupleiter_next hit.typeIs entry_tupleiter_next ?_ (args_tupleiter_next _))))
  refine (show wpAny _ _ (field (.ref _) 0 >>= _) _ _ _ from wpAny_bind (wpAny_field at1 f1 rfl ?_))
  refine (show wpAny _ _ (ite ((Value.ref _ == Value.none) = true) _ _) _ _ _ from (if_neg Bool.false_ne_true).symm ▸ ?_)
  refine (show wpAny _ _ (field (.ref _) 1 >>= _) _ _ _ from wpAny_bind (wpAny_field at1 f1 rfl ?_))
  refine (show wpAny _ _ (seqItems? (.ref _) >>= _) _ _ _ from wpAny_bind (wpAny_seqItems at2 f2 ?_))
  simp only [hx, Int.toNat_natCast]
  refine wpAny_bind (wpAny_rule (wpAny_bind (wpAny_setField at1 f1 (by simp) ?_)))
  refine stop_hot (hot_stay hot fun o e => (same.2 x1 (hot_away hot at1 f1)).trans e) fun a g keep ty => ?_
  exact wpAny_bind (wpAny_isInstance (b := true) ty isSubtype_stop (wpAny_pure (goal g fun b o hb e => keep b o ((same.2 b hb).trans e))))
/-- all items of a tuple drawn, and that there are no more -/
theorem drawn_hot {t x1 : Addr} {items : Array Value} {Q : List Value → Shared → Prop} (hot : HotAt A x1 s.heap) (ht : IsTup s.heap t items) (goal : ∀ h2, Heap.ExtBut s.heap.objs.size s.heap h2 → Q items.toList { s with heap := h2 }) :
    wpAny (model P w) A (unpackItems (.ref t) items.size none) Q E s := by
  have old : ∀ {b : Addr} {o : Obj}, s.heap.get? b = some o → b ≠ s.heap.objs.size := fun e => Nat.ne_of_lt (Heap.lt_size e)
  have away : t ≠ s.heap.objs.size := old (id ht).choose_spec.1
  have far : x1 ≠ s.heap.objs.size := old hot.2.choose_spec.choose_spec.1
  unfold unpackItems notIterableAtAll
  refine wpAny_bind (wpAny_bind (wpAny_specialOf ht.typeIs slot_tuple_iter.lookup (wpAny_pure ?_)))
  rw [if_neg (by simp)]
  refine wpAny_bind (wpAny_holding (iter_tuple ht (wpAny_bind (wpAny_holding (draw_tuple away items.size 0 _ _ ⟨_, Heap.get?_push_size _ rfl, rfl, rfl⟩ (ht.push _) (by omega) fun g1 it1 same => ?_)))))
  have all_ : (items.toList.drop 0).take items.size = items.toList := by rw [List.drop_zero, ← Array.length_toList, List.take_length]
  have keep1 : ∀ b o, b ≠ s.heap.objs.size → s.heap.get? b = some o → g1.get? b = some o := fun b o hb e => same.extBut b o hb (Heap.get?_push_of_some _ e)
  rw [all_, if_neg (by simp)]
  refine wpAny_bind (wpAny_holding (next_tup_hot (s := { s with heap := g1 }) (hot_stay hot fun o => keep1 x1 o far) it1 ((ht.push _).extBut same.extBut away) (by simp) fun g2 same2 => ?_))
  rw [if_neg (by simp)]
  exact wpAny_pure (goal g2 fun b o hb e => same2 b o hb (keep1 b o hb e))
theorem unpack_hot {t x1 : Addr} {items : Array Value} {targets : List (Bool × (Value → Sem Unit))} {Q : Unit → Shared → Prop} (hot : HotAt A x1 s.heap) (ht : IsTup s.heap t items) (hn : targets.length = items.size) (hstar : targets.findIdx? (·.1) = none)
    (goal : ∀ h2, Heap.ExtBut s.heap.objs.size s.heap h2 → wpAny (model P w) A (assignInOrder (targets.map (·.2)) items.toList) Q E { s with heap := h2 }) : wpAny (model P w) A (unpack (.ref t) targets) Q E s := by
  unfold unpack
  rw [hstar, hn]
  exact wpAny_bind (wpAny_holding (drawn_hot hot ht goal))
end
section
variable {X : Cx} {tg : Expr} {pos : Pos}
theorem pg_tupH {es : List Expr} {k n : Nat} {t : TGs} (hc : L2H.HotC X) (h : PGs X es t) (hn : (assignEach es X.env).length = n := by rfl) (hst : (assignEach es X.env).findIdx? (·.1) = none := by rfl) : PG X (.Tuple es k pos) (gTup X.K n t) := ⟨fun pins s σ H v u Q I r wish => by
  obtain ⟨a, xs, rfl, hq, hl, wish⟩ := wish
  cases r
  obtain ⟨us, rel, is_, _⟩ := I.tuple hq
  obtain ⟨x1, hot⟩ := hc.at I
  rw [assign_Tuple]
  refine wpAny_bind (wpAny_standAt (unpack_hot hot is_ (by simp [hn, ← hl, rel.length]) hst fun h2 ext => ?_))
  exact h.run pins _ σ H xs _ Q (I.kept (t' := s.toks) fun b o e => ext b o (Nat.ne_of_lt (Heap.lt_size e)) e) (by simpa using rel) wish⟩
/-- a list's iterator, asked while an error is handled -/
theorem turn_listH {P : Program} {w : World} {K : PySem.W.Frag} (a it : Addr) : L2H.TurnH P w K tg (Itl K a) [it] it (fun i h => h.IsListIter it a i) := by
  have one : ∀ {b : Addr}, b ∈ [it] → b = it := fun h => List.mem_singleton.mp h
  refine ⟨List.mem_singleton.mpr rfl, fun i h st b hb => ?_, fun i h h2 st k => st.at fun o e => k it (List.mem_singleton.mpr rfl) o e, ?_, ?_, fun _ _ _ _ _ st go => wpAny_pyIter_listiter st go⟩
  · obtain ⟨o, at_, cls, dat⟩ := st
    refine ⟨o, by rw [one hb]; exact at_, fun v z => ?_⟩
    rw [dat] at z
    cases z
  · rintro X rfl rfl rfl hc i pins s σ H E I away st ⟨xs, x, hq, hx⟩
    obtain ⟨us, rel, lay, _⟩ := I.list hq
    obtain ⟨u, hu, ru⟩ := rel.get hx
    have f := away it (List.mem_singleton.mpr rfl)
    refine wpAny_pyNext_list_item st lay.isList (x := u) (by simpa using hu) fun h2 st2 same => ?_
    obtain ⟨o, at_, cls, dat⟩ := id st2
    have I2 : Inv X pins σ H { s with heap := h2 } := I.turned (t' := s.toks) (fun b o hb e => (same.2 b hb).trans e) f.1 f.2.1 f.2.2.2.1 f.2.2.2.2.1 f.2.2.2.2.2
    exact ⟨u, rfl, go_of (s := { s with heap := h2 }) at_ cls dat (by decide) ⟨x, H, I2, ru, ⟨rfl, fun ys hy => (I.list_inj hy hq).symm ▸ hx⟩, st2, fun b hb => (away b hb).1⟩⟩
  · rintro X rfl rfl rfl hc i pins s σ H E I away st ⟨xs, hq, hx⟩
    obtain ⟨us, rel, lay, _⟩ := I.list hq
    obtain ⟨x1, hot⟩ := hc.at I
    have f := away it (List.mem_singleton.mpr rfl)
    have len := rel.length
    exact next_list_hot hot st lay.isList (by simp; omega) fun h2 ext => ⟨rfl, I.turned (t' := s.toks) (fun b o hb e => ext b o hb e) f.1 f.2.1 f.2.2.2.1 f.2.2.2.2.1 f.2.2.2.2.2⟩
theorem pi_listH {l : Expr} {tl : TE} (hl : PE X l tl) : L2H.PIH X tg l (iList X.K tl) := ⟨fun pins s σ H R I h => thn (hl.run pins s σ H _ I h) fun v s1 got => by
  obtain ⟨x, H1, I1, rel, a, rfl, ⟨xs, hq⟩, wish⟩ := got
  cases rel
  obtain ⟨us, _, lay, _⟩ := I1.list hq
  have new : ∀ b ∈ [s1.heap.objs.size], FpOk X pins H1 b := fun b hb => by
    rw [List.mem_singleton.mp hb]
    exact I1.fpOk (Nat.le_refl s1.heap.objs.size) (I1.hok.fresh (Nat.le_refl _))
  exact wpAny_pyIter_list lay.isList ⟨_, _, _, _, H1, rfl, I1.kept (t' := s1.toks) fun b o e => Heap.get?_push_of_some _ e, turn_listH a _, ⟨_, Heap.get?_push_size _ rfl, rfl, rfl⟩, new, wish⟩⟩

/-! ### a comprehension -/
/-- what a comprehension asks of each turn: the list is made at D, done is what is to hold at the end -/
def MoreH (D : Addr) (Nx : Hp → Prop) : VK := fun y G => ∃ made : List V, G D = some (.lst made) ∧ made.length < sizeLine ∧ Nx (upd G D (.lst (made ++ [y])))
def OneH (g : TG) (tt : TT) (te : TE) (D : Addr) (σ : L2.St) (vs : List Nat) (Nx : Hp → Prop) (x : V) (G : Hp) : Prop := g x (wipe σ vs) G fun τ G1 => wipe τ vs = wipe σ vs ∧ tt τ G1 fun b G2 => if b = true then te τ G2 (MoreH D Nx) else Nx G2
def TurnsH (J : It) (g : TG) (tt : TT) (te : TE) (D : Addr) (σ : L2.St) (vs : List Nat) (W : Nat → Nat → Hp → Prop) (done : Hp → Prop) : Prop :=
  ∀ i m G, W i m G → (J.stop i G ∧ done G) ∨ (J.go i G ∧ ∃ Nx : Hp → Prop, (∀ G', Nx G' → ∃ m', m' < m ∧ W (i + 1) m' G') ∧ ∀ x G', J.yld i G x G' → OneH g tt te D σ vs Nx x G')
section
variable {Y : Cx} {fp : List Addr} {tn : Nat → Heap → Prop} {W : Nat → Nat → Hp → Prop} {σ : L2.St} {vs : List Nat} {J : It} {it : Addr}
/-- where the walk stands, the i-th item ahead -/
structure SpotH (Y : Cx) (fp : List Addr) (tn : Nat → Heap → Prop) (W : Nat → Nat → Hp → Prop) (σ : L2.St) (n i : Nat) (H : Hp) (s : Shared) : Prop where
  inv : Inv Y [] σ H s
  iter : tn i s.heap
  none : ∀ b ∈ fp, H b = none
  left : W i n H
/-- behind a turn it stands at the next item: g is the heap when the item was handed out -/
theorem SpotH.next (T : L2H.TurnH Y.prog Y.w Y.K tg J fp it tn) {g : Heap} {σ2 : L2.St} {H : Hp} {s : Shared} {n m i : Nat} (st : tn (i + 1) g) (I : Inv Y (pinsAt fp g) σ2 H s) (ew : wipe σ2 vs = wipe σ vs) (lt : m < n) (w : W (i + 1) m H) :
    ∃ m, m < n ∧ ∃ i H, SpotH Y fp tn W (wipe σ vs) m i H s := by
  have pinned : ∀ b ∈ fp, ∀ o, g.get? b = some o → s.heap.get? b = some o ∧ H b = Option.none := fun b hb o e => by
    obtain ⟨q1, q2, _⟩ := I.pin (b, o) (List.mem_append_right _ (mem_pinsAt hb e))
    exact ⟨q1, q2⟩
  have I0 : Inv Y ([] ++ pinsAt fp g) σ2 H s := I
  refine ⟨m, lt, i + 1, H, (Inv.unpinned I0).weak ?_ fun j v e => ?_, T.keep _ _ _ st fun b hb o e => (pinned b hb o e).1, fun b hb => ?_, w⟩
  · rw [← ew]
    exact wipe_length ..
  · rw [← ew] at e
    exact (wipe_some e).1
  · obtain ⟨o, e, _⟩ := T.obj _ _ st b hb
    exact (pinned b hb o e).2
/-- a block hands no error on -/
theorem thnX {α : Type} {t : Sem α} {Q Q' : α → Shared → Prop} {M : Model} {A : Around} {E : Value → Shared → Prop} {s : Shared} (hx : Y.xe = fun _ _ => False) (h : wpAny M A t Q Y.xe s) (hQ : ∀ a s, Q a s → Q' a s) : wpAny M A t Q' E s := by
  rw [hx] at h
  exact thnF h hQ
/-- the whole walk, in the block's own context Y -/
theorem walkH {elt iter : Expr} {ifs : List Expr} {scope : Scope} {D : Addr} {g : TG} {tt : TT} {te : TE} {done : Hp → Prop} {R : Result → Shared → Prop} {H : Hp} {s : Shared} {n : Nat}
    (hx : Y.xe = fun _ _ => False) (hot : L2H.HotC Y) (T : L2H.TurnH Y.prog Y.w Y.K tg J fp it tn) (pg : PG Y tg g) (pt : PTs Y ifs tt) (pe : PE Y elt te) (away : ∀ (σ' : L2.St) (H' : Hp) (s' : Shared), Inv Y [] σ' H' s' → (∀ b ∈ fp, H' b = none) → ∀ b ∈ fp, FpOk Y [] H' b)
    (turns : TurnsH J g tt te D σ vs W done) (leave : ∀ H' s', Inv Y [] (wipe σ vs) H' s' → done H' → R (.ok .next) s') (start : SpotH Y fp tn W (wipe σ vs) n 0 H s) :
    codeAny (model Y.prog Y.w) Y.A (.compLoop (.ListComp elt [⟨tg, iter, ifs, 0⟩] scope pos) 0 (.ref it) (.ref D) Y.env) R s := by
  refine compLoop_any (fun n s => ∃ i H, SpotH Y fp tn W (wipe σ vs) n i H s) (fun n s at_ => ?_) n ⟨0, H, start⟩
  obtain ⟨i, H, spot⟩ := at_
  have ok := away _ _ _ spot.inv spot.none
  rcases turns i n H spot.left with ⟨stop, fin⟩ | ⟨go, Nx, nexts, step⟩
  · refine thnF (T.done Y rfl rfl rfl hot i [] s _ H (fun _ _ => False) spot.inv ok spot.iter stop) fun r s2 got => ?_
    cases got.1
    exact leave H s2 got.2 fin
  · refine thnF (T.item Y rfl rfl rfl hot i [] s _ H (fun _ _ => False) spot.inv ok spot.iter go) fun r s2 got => ?_
    obtain ⟨u, rfl, item⟩ := got
    refine thnF item fun _ s3 ⟨x, H3, I3, rel, yld, st3, no3⟩ => ?_
    have J3 : Inv Y (pinsAt fp s3.heap) (wipe σ vs) H3 s3 := I3.pinned (away _ _ _ I3 no3) (T.obj _ _ st3)
    refine thnX hx (pg.run _ s3 _ H3 x u _ J3 rel (step x H3 yld)) fun _ s4 ⟨σ4, H4, I4, ew, tst⟩ => thnX hx (pt.run _ s4 σ4 H4 _ I4 tst) fun b s5 ⟨H5, I5, wish⟩ => ?_
    have back : ∀ {H' : Hp} {s' : Shared}, Inv Y (pinsAt fp s3.heap) σ4 H' s' → Nx H' → ∃ m, m < n ∧ ∃ i H, SpotH Y fp tn W (wipe σ vs) m i H s' := fun {H' s'} I' nx => by
      obtain ⟨m, lt, w⟩ := nexts H' nx
      exact SpotH.next T st3 I' ew lt w
    cases b
    · exact back I5 wish
    · exact thnX hx (pe.run _ s5 σ4 H5 _ I5 wish) fun z s6 ⟨y, H6, I6, r6, acc, hD, few, nx⟩ => app_ok I6 hD few r6 fun s7 I7 => back I7 nx
end
/-- the block of a comprehension within an except suite: it bears the handled error -/
abbrev blkP (X : Cx) (p : Addr × Obj) (s : Shared) (H : Hp) (scope : Scope) (cenv : Env) (fp : List Addr) : Cx := { X.blk s H scope cenv fp with pn := [p] }
theorem inv_addP {Y : Cx} {p : Addr × Obj} {σ : L2.St} {H : Hp} {s : Shared} (I : Inv Y [] σ H s) (h : s.heap.get? p.1 = some p.2 ∧ H p.1 = none ∧ p.1 ≠ Y.env.locals ∧ p.1 ∉ Y.fs ∧ ∀ v, p.2.data ≠ .cell v) : Inv { Y with pn := [p] } [] σ H s := by
  have ok := I.ok
  refine ⟨⟨ok.mod, ok.kind, ok.glob, ok.blt, ok.above, ok.inj, ok.has, ok.cab, ok.hd, ok.frames, ok.stk, ok.exf, ok.bs, ok.bsz, ok.noex, ok.exfs, ok.funs, ok.frf⟩, I.os, I.bare, I.base, I.loc, I.cell, I.free, I.freeC, fun q hq => ?_, I.hok, I.len⟩
  have : q = p := by simpa using (show q ∈ [p] ++ ([] : List (Addr × Obj)) from hq)
  exact this ▸ h
/-- the environment of a block entered at s -/
abbrev envH (X : Cx) (scope : Scope) (s : Shared) : Env := compEnvC scope (cellsFrom (s.heap.objs.size + 1) scope.names (cloFrom X.env.cells scope.names [])) s.heap.objs.size X.env
/-- from the entry of the block on -/
theorem enterH {p : Addr × Obj} {pins : List (Addr × Obj)} {s : Shared} {σ : L2.St} {H : Hp} {elt iter : Expr} {ifs : List Expr} {scope : Scope} {own : List (Str × Nat)} {g : TG} {tt : TT} {te : TE} {it D : Addr} {fp : List Addr} {tn : Nat → Heap → Prop} {J : It} {W : Nat → Nat → Hp → Prop} {n : Nat} {done : Hp → Prop} {R : Result → Shared → Prop}
    (hot : L2H.Hot1 X.A p) (hp : p ∈ X.pn) (hN : X.N.Nodup) (I : Inv X pins σ H s) (ok : BlkOk X.N X.env.scope scope own) (T : L2H.TurnH X.prog X.w X.K tg J fp it tn) (st : tn 0 s.heap) (hfp : ∀ b ∈ fp, FpOk X pins H b)
    (pg : PG (blkP X p s H scope (envH X scope s) fp) tg g) (pt : PTs (blkP X p s H scope (envH X scope s) fp) ifs tt) (pe : PE (blkP X p s H scope (envH X scope s) fp) elt te)
    (turns : TurnsH J g tt te D σ (own.map (·.2)) W done) (start : W 0 n H) (leave : ∀ s2 m H2, Inv X pins σ H2 s2 → done H2 → s2.heap.Ns s.heap.objs.size m → FpOk X pins H2 s.heap.objs.size → R (.ok .next) s2) :
    codeAny (model X.prog X.w) X.A (.compStart (.ListComp elt [⟨tg, iter, ifs, 0⟩] scope pos) 0 (.ref it) (.ref D) (envH X scope s)) R { s with heap := pushCells (s.heap.push { cls := .type "dict", data := .dict #[] }) scope.names } := by
  have old : ∀ b o, s.heap.get? b = some o → (pushCells (s.heap.push { cls := .type "dict", data := .dict #[] }) scope.names).get? b = some o := fun b o e => pushCells_keeps _ _ _ _ (Heap.get?_push_of_some _ e)
  obtain ⟨q1, q2, q3, q4, q5⟩ := I.pin p (List.mem_append_left _ hp)
  have I2 := inv_addP (p := p) (block_start I ok hN fun b hb => ⟨hfp b hb, by
    obtain ⟨o, e, _⟩ := T.obj _ _ st b hb
    exact Heap.lt_size e⟩) ⟨old _ _ q1, q2, Nat.ne_of_lt (Heap.lt_size q1), fun hm => (List.mem_cons.mp (I.stkSub p.1 hm)).elim q3 q4, q5⟩
  have st2 := T.keep _ _ _ st fun b _ o e => old b o e
  have loop := walkH (Y := blkP X p s H scope (envH X scope s) fp) (R := R) (elt := elt) (iter := iter) (ifs := ifs) (scope := scope) (pos := pos) (n := n) rfl ⟨p, hot, List.mem_singleton.mpr rfl⟩ T pg pt pe (fun σ' H' s' I' no b hb => ?_) turns (fun H' s' I' fin => ?_) ⟨I2, st2, fun b hb => (hfp b hb).1, start⟩
  · exact codeAny_compStart_list loop (T.self X.A 0 _ _ _ st2 loop)
  · refine ⟨no b hb, (I'.ok.exf b hb).1, I'.ok.exfs b hb, .inl hb, fun x c e => (I'.ok.exf b hb).2 x c e, fun r hr => ?_⟩
    have : r = p := by simpa using (show r ∈ [p] ++ ([] : List (Addr × Obj)) from hr)
    rw [this]
    exact (hfp b hb).2.2.2.2.2 _ (List.mem_append_left _ hp)
  · obtain ⟨m, ns, _⟩ := I'.loc
    have free : H' s.heap.objs.size = none := I'.free
    exact leave s' m H' (I.call' (ch := fp) I'.os I'.base I'.hok I'.bare fun b hb => ⟨(hfp b hb).2.2.2.1, (hfp b hb).2.1, (hfp b hb).2.2.2.2.1, (hfp b hb).2.2.2.2.2⟩) fin ns (I.fpOk (Nat.le_refl _) free)
theorem pe_lcH {p : Addr × Obj} {elt iter : Expr} {ifs : List Expr} {scope : Scope} {own : List (Str × Nat)} {wi : TI} {g : TG} {tt : TT} {te : TE} (hot : L2H.Hot1 X.A p) (hp : p ∈ X.pn) (hN : X.N.Nodup) (hi : L2H.PIH X tg iter wi) (ok : BlkOk X.N X.env.scope scope own)
    (hg : ∀ (s : Shared) (H : Hp) (C : Addr) (cl : List (Str × Addr)) (fp : List Addr), PG (blkP X p s H scope (compEnvC scope cl C X.env) fp) tg g)
    (ht : ∀ (s : Shared) (H : Hp) (C : Addr) (cl : List (Str × Addr)) (fp : List Addr), PTs (blkP X p s H scope (compEnvC scope cl C X.env) fp) ifs tt)
    (he : ∀ (s : Shared) (H : Hp) (C : Addr) (cl : List (Str × Addr)) (fp : List Addr), PE (blkP X p s H scope (compEnvC scope cl C X.env) fp) elt te) (hs : ∀ x, foldedSetIterable iter X.env x = pure x := by intro _; rfl) :
    PE X (.ListComp elt [⟨tg, iter, ifs, 0⟩] scope pos) (tLc wi g tt te (own.map (·.2))) := ⟨fun pins s σ H Q I h => by
  have caps : closureFor scope X.env = pure (cloFrom X.env.cells scope.names []) := closure_ok fun y hy e => (ok.free y hy e).elim (fun k => I.ok.has _ (.inl k)) fun k => I.ok.has _ (.inr k)
  rw [eval_ListComp]
  refine wpAny_comprehension_free (use := none) rfl hs caps ok.kind (fun y hy e => (ok.uniq y hy).trans (congrArg some e)) (thn (hi.run pins s σ H _ I h) fun _ _ walk => thn walk fun _ s2 got => ?_)
  obtain ⟨it, fp, tn, J, H2, rfl, I2, T, st, away, wish⟩ := got
  obtain ⟨W, ⟨n, start⟩, turns⟩ := wish s2.heap.objs.size (I2.hok.fresh (Nat.le_refl _))
  have I3 : Inv X pins σ (upd H2 s2.heap.objs.size (.lst [])) { s2 with heap := s2.heap.push { cls := .type "list", data := .seq ([] : List Value).toArray } } :=
    I2.laid (t' := s2.toks) (fun b o e => Heap.get?_push_of_some _ e) (Nat.le_refl _) ⟨Nat.zero_le _, [], 0, .nil, Heap.get?_push_size _ rfl⟩
  have st3 := T.keep _ _ _ st fun b _ o e => Heap.get?_push_of_some { cls := .type "list", data := .seq ([] : List Value).toArray } e
  have away3 : ∀ b ∈ fp, FpOk X pins (upd H2 s2.heap.objs.size (.lst [])) b := fun b hb => by
    obtain ⟨o, e, _⟩ := T.obj _ _ st b hb
    refine ⟨?_, (away b hb).2⟩
    rw [upd_ne (Nat.ne_of_lt (Heap.lt_size e))]
    exact (away b hb).1
  refine wpAny_newObj_type (newEnv_comp (enterH hot hp hN I3 ok T st3 away3 (hg ..) (ht ..) (he ..) turns start fun s4 m H4 I4 fin ns f => ⟨m, ns, fun h2 same => ?_⟩)) (Nat.zero_le _)
  exact ⟨.ref s2.heap.objs.size, H4, I4.turned (t' := s4.toks) (fun b o hb e => (same.2 b hb).trans e) f.1 f.2.1 f.2.2.2.1 f.2.2.2.2.1 f.2.2.2.2.2, rfl, fin⟩⟩
end

end Rv
namespace Rv
open PySem L2 PySem.Spec PyProof.Rows
/-! The data layer, part Q: a def that is handed the error which the suite holds, called there; try with such a suite. -/
section
variable {Y : Cx} {a D : Addr} {oe : Obj}
/-- isinstance(e, c), e the error that the context bears -/
def rIsP (K : PySem.W.Frag) (D a : Addr) : List V → Hp → VK → Prop := fun xs H Q => ∃ (c : V) (cv : Value) (b : Bool), xs = [.ref a, c] ∧ (∀ u, RelV c u → u = cv) ∧ PySem.W.kitOne K (.ref D) cv = some b ∧ Q (.bl b) H
theorem call_isP (C : ExcC Y.K D) (hz : Zc (.ref D) none oe) (hf : ∃ vs, oe.data = .fields vs) (hp : (a, oe) ∈ Y.pn) : CallR Y (.builtin "isinstance") (rIsP Y.K D a) := fun pins s σ H xs us Q I r hh => by
  obtain ⟨c, cv, b, rfl, hcv, e, q⟩ := hh
  have hget : s.heap.get? a = some oe := (I.pin _ (List.mem_append_left _ hp)).1
  match us, r with
  | _, .cons rx (.cons rt .nil) =>
    cases rx
    have ec := hcv _ rt
    subst ec
    have inst : PySem.W.InstAt (Shared.heap s) a oe D none := by
      obtain ⟨vs, hv⟩ := hf
      cases oe with
      | mk oc od oda osl =>
        obtain ⟨z1, z2⟩ := hz
        cases (show oc = .ref D from z1)
        cases (show od = none from z2)
        cases (show oda = .fields vs from hv)
        exact (⟨hget, rfl, rfl, trivial⟩)
    exact PySem.W.kia_one (PySem.W.handS_kitx_exc C.hg C.hk C.hs C.hd C.ha C.hn C.ht C.hm) I.kIn inst e (fun z => nomatch z) fun tk => ⟨V.bl b, H, I.kept (t' := tk) (fun _ _ z => z), rfl, q⟩
/-- the display of pairs (a name, isinstance(e, C)) -/
structure MK (Y : Cx) (K : PySem.W.Frag) (a : Addr) (es : List Expr) (t : TA) (L : List PyData) : Prop where
  pa : PA Y es t
  sd : ∀ σ H O (Q : List V → Hp → Prop), (∀ l ∈ O, ∃ o, H l = some o) → σ[0]? = some (some (.ref a)) → (∀ vs H2, Ex H H2 → DpAll K (cut H2 O) vs L → Q vs H2) → t σ H Q
theorem mk_nil {K : PySem.W.Frag} : MK Y K a [] tNil [] := ⟨pa_nil, fun σ H O Q _ _ q => q [] H (Ex.refl H) .nil⟩
theorem mk_cons {K : PySem.W.Frag} {es : List Expr} {t : TA} {L : List PyData} {n x cn : Str} {b : Bool} {cv : V} {u : Value} {j x1 : Nat} {p1 p2 p3 p4 p5 p6 : Pos} (hK : Y.K = K) (EC : ExcC K D) (hz : Zc (.ref D) none oe) (hf : ∃ vs, oe.data = .fields vs) (hp : (a, oe) ∈ Y.pn)
    (hc : PE Y (.Name cn p4) (tC cv)) (hu : ∀ u', RelV cv u' → u' = u) (hkit : PySem.W.kitOne K (.ref D) u = some b) (hm : Y.mg "isinstance" = none) (r : MK Y K a es t L)
    (he : PE Y (.Name x p3) (tVar 0) := by exact pv _) (hg : Gl Y "isinstance" := by exact rfl)
    (s1 : starEach [.Name x p3, .Name cn p4] Y.env = (false, eval (.Name x p3) Y.env) :: starEach [.Name cn p4] Y.env := by exact rfl) (s2 : starEach [.Name cn p4] Y.env = (false, eval (.Name cn p4) Y.env) :: starEach [] Y.env := by exact rfl)
    (s3 : (backTo p5 (starEach [.Name cn p4] Y.env)).any (·.1) = false := by exact rfl)
    (s4 : starEach (.Tuple [.Constant (.str n) j p1, .Call (.Name "isinstance" p2) [.Name x p3, .Name cn p4] [] p5] x1 p6 :: es) Y.env = (false, eval (.Tuple [.Constant (.str n) j p1, .Call (.Name "isinstance" p2) [.Name x p3, .Name cn p4] [] p5] x1 p6) Y.env) :: starEach es Y.env := by exact rfl)
    (s5 : starEach [.Constant (.str n) j p1, .Call (.Name "isinstance" p2) [.Name x p3, .Name cn p4] [] p5] Y.env = (false, eval (.Constant (.str n) j p1) Y.env) :: starEach [.Call (.Name "isinstance" p2) [.Name x p3, .Name cn p4] [] p5] Y.env := by exact rfl)
    (s6 : starEach [.Call (.Name "isinstance" p2) [.Name x p3, .Name cn p4] [] p5] Y.env = (false, eval (.Call (.Name "isinstance" p2) [.Name x p3, .Name cn p4] [] p5) Y.env) :: starEach [] Y.env := by exact rfl) :
    MK Y K a (.Tuple [.Constant (.str n) j p1, .Call (.Name "isinstance" p2) [.Name x p3, .Name cn p4] [] p5] x1 p6 :: es) (tCons (tTup (tCons (tC (.str n)) (tCons (tCB (rIsP K D a) (tCons (tVar 0) (tCons (tC cv) tNil))) tNil))) t) (.tuple [.str n, .bool b] :: L) :=
  ⟨by
    have cr : CallR Y (.builtin "isinstance") (rIsP K D a) := by
      have := call_isP (Y := Y) (a := a) (oe := oe) (D := D) (by rw [hK]; exact EC) hz hf hp
      rw [hK] at this
      exact this
    exact pa_cons (pe_tup (pa_cons pe_str (pa_cons (pe_callB cr hg hm rfl (pa_cons he (pa_cons hc pa_nil s2) s1) (by decide) (by decide) s1 s3) pa_nil s6) s5)) r.pa s4,
  fun σ H O Q ho h0 q => by
    refine ⟨.ref a, h0, cv, u, b, rfl, hu, hkit, ?_, fun p hp => ?_⟩
    · exact line_two
    · have e1 : Ex H (upd H p (.tup [V.str n, V.bl b])) := Ex.new hp
      have new : Dp K (cut (upd H p (.tup [V.str n, V.bl b])) O) (.ref p) (.tuple [.str n, .bool b]) := new_tup ho hp (.cons (.str n) (.cons (.bl b) .nil))
      refine r.sd σ _ O _ (fun l hl => ?_) h0 fun vs H2 e2 hv => q _ H2 (e1.trans e2) (.cons (dp_ex (cut_mono e2) new) hv)
      obtain ⟨o, z⟩ := ho l hl
      exact ⟨o, e1 _ _ z⟩⟩
end

/-! ### the def, run within the suite -/
section
variable {P : Program} {w : World} {K : PySem.W.Frag} {mg : Str → Option Value} {base : Heap} {N : List Str}
/-- what the def promises within the suite: handed the handled error, of the class D, it answers d -/
def KinH (P : Program) (w : World) (K : PySem.W.Frag) (mg : Str → Option Value) (base : Heap) (k : Nat) (f : Addr) (fd : FuncData) (D : Addr) (d : PyData) : Prop :=
  ∀ (A : Around) (outer : List Env) (s : Shared) (H : Hp) (Q : VK) (a : Addr) (oe : Obj), L2H.RoomH k A → L2H.Hot1 A (a, oe) → L2H.PinOk outer H s (a, oe) → Env0 P w K mg base A outer s H → BindsTo s fd ⟨[.ref a], []⟩ ([("e" : Str)].zip [Value.ref a]) → Zc (.ref D) none oe → (∃ vs, oe.data = .fields vs) → ∀ O : List Addr, (∀ l ∈ O, ∃ o, H l = some o) →
    (∀ v H2, Ex H H2 → Dp K (cut H2 O) v d → Q v H2) → codeAny (model P w) A (.call (.ref f) ⟨[.ref a], []⟩) (CR CX0 outer P w H s Q E0) s
theorem kin_run {x qual : Str} {st : Stmt} {f D : Addr} {fd : FuncData} {k : Nat} {d : PyData} (F : Fun K x qual st f fd) (S : FnScope N [("e" : Str)] (defScope st))
    (hb : ∀ (cdv : Value) (A : Around) (outer : List Env) (s : Shared) (H : Hp) (Q : VK) (a : Addr) (oe : Obj), L2H.Hot1 A (a, oe) → L2H.RoomH k (A.deeper (envOfC qual (defScope st) s.heap.objs.size f cdv)) → Zc (.ref D) none oe → (∃ vs, oe.data = .fields vs) → ∀ O : List Addr, (∀ l ∈ O, ∃ o, H l = some o) → (∀ v H2, Ex H H2 → Dp K (cut H2 O) v d → Q v H2) →
      ∃ t, PSs (L2H.cxH CX0 P w K mg base N qual (defScope st) f cdv A outer s H E0 (a, oe)) (defBody st) t ∧ t { nx := fun _ H' => Q .non H', rt := Q } (L2.start N [V.ref a]) H) :
    KinH P w K mg base (k + 1) f fd D d := fun A outer s H Q a oe hr hot hpin e0 hbind hz hf O ho goal => by
  obtain ⟨_, _, _, _, _, _, cdv, _, _, rfl, lies, coded⟩ := F.ex
  have old : ∀ b o, base.get? b = some o → s.heap.get? b = some o := fun b o e => (e0.bs b o e).1
  have KX := e0.mod.kin.keeps old
  have kinds : ∀ y ∈ [("e" : Str)].zip [Value.ref a], (defScope st).names.lookup y.1 = some .local ∨ ((defScope st).names.lookup y.1 = some .cell ∧ ((cellsFrom (s.heap.objs.size + 1) (defScope st).names []).lookup y.1).isSome = true) := fun y hy =>
    (S.par y.1 (List.of_mem_zip (a := y.1) (b := y.2) hy).1).imp id fun q => ⟨q, PySem.W.cellsFrom_some _ _ _ (.inl q)⟩
  refine codeAny_call_function hr.depth (KX _ _ lies) rfl S.co S.gen rfl (PySem.W.codeRec_of KX coded) (hbind _ _ _ _ ?_)
  refine wpAny_newFunctionEnv_cells S.kind kinds fun env he s1 x1 => ?_
  subst he
  refine ⟨(e0.mod.nolimit.keeps old).keeps x1.toInCall.keep, codeAny_func ?_⟩
  obtain ⟨t, ht, hq⟩ := hb cdv A outer s H Q a oe hot (hr.deeper _) hz hf O ho goal
  have rel : Vals [V.ref a] [Value.ref a] := .cons rfl .nil
  have I : Inv (L2H.cxH CX0 P w K mg base N qual (defScope st) f cdv A outer s H E0 (a, oe)) [] (L2.start N [V.ref a]) H s1 := L2H.inv_startH S hpin e0 rfl rel x1
  refine wpAny_mono (ht.run [] s1 _ H _ I hq) (fun fl s2 hs => ?_) fun e s2 hs => hs
  have fin : ∀ {σ' : L2.St} {H' : Hp} {v : V} {u : Value}, Inv (L2H.cxH CX0 P w K mg base N qual (defScope st) f cdv A outer s H E0 (a, oe)) [] σ' H' s2 → RelV v u → Q v H' → CE outer P w H s Q u s2 := fun {σ' H' v u} J rv q => ⟨v, H', J.os, J.bare, J.base, J.hok, rv, q⟩
  cases fl with
  | ret u => exact match hs with | ⟨_, _, _, J, rv, q⟩ => fin J rv q
  | next => exact match hs with | ⟨_, _, J, q⟩ => fin (v := .non) (u := .none) J rfl q
  | brk =>
    obtain ⟨_, _, _, q⟩ := hs
    exact False.elim q
  | cont =>
    obtain ⟨_, _, _, q⟩ := hs
    exact False.elim q
def mItL (m : En → Option PyData) : En → Option (List PyData) := fun env => (m env).bind fun d => match d with
  | .list xs => some xs
  | _ => none
/-- the whole def: kin = [(.., ..), ..]; return [name for name, there in kin if there] -/
theorem fn_kinH {x qual y n1 n2 : Str} {st : Stmt} {f D : Addr} {fd : FuncData} {k : Nat} {es : List Expr} {py lp ap p1 p2 p3 p4 p5 p6 p7 p8 : Pos} {x1 : Nat} {scope : Scope} {L : List PyData} {d : PyData} (F : Fun K x qual st f fd) (S : FnScope N [("e" : Str)] (defScope st))
    (hb : defBody st = [.Assign [.Name y py] (.List es lp) ap, .Return (some (.ListComp (.Name n1 p1) [⟨.Tuple [.Name n1 p2, .Name n2 p3] x1 p4, .Name y p5, [.Name n2 p6], 0⟩] scope p7)) p8])
    (hN : N = [("e" : Str), y, n1, n2])
    (h1 : ∀ (cdv : Value) (A : Around) (outer : List Env) (s : Shared) (H : Hp) (a : Addr) (oe : Obj), Zc (.ref D) none oe → (∃ fs, oe.data = .fields fs) → ∃ t, MK (L2H.cxH CX0 P w K mg base N qual (defScope st) f cdv A outer s H E0 (a, oe)) K a es t L) (hL : L.length ≤ sizeLine)
    (ok : BlkOk N (defScope st) scope [(n1, 2), (n2, 3)])
    (hm : mLc [2, 3] (mItL (mVar 1)) (gT 2 (gsC (gB 2) (gsC (gB 3) gsN))) (mTru (mVar 3)) (mVar 2) [none, some (.list L), none, none] = some d)
    (hlo : Loc (defScope st) y) (hly : (defScope st).names.lookup y = some .local)
    (hs : ∀ (cdv : Value) (A : Around) (outer : List Env) (s : Shared) (H : Hp) (p : Addr × Obj), swapsWith (.List es lp) (some (.Name y py)) ap.line (L2H.cxH CX0 P w K mg base N qual (defScope st) f cdv A outer s H E0 p).env = pure false)
    (hvy : ∀ (cdv : Value) (A : Around) (outer : List Env) (s : Shared) (H : Hp) (p : Addr × Obj), PE (L2H.cxH CX0 P w K mg base N qual (defScope st) f cdv A outer s H E0 p) (.Name y p5) (tVar 1))
    (hin : ∀ (cdv : Value) (A : Around) (outer : List Env) (s : Shared) (H : Hp) (p : Addr × Obj) (s' : Shared) (H' : Hp) (C : Addr) (cl : List (Str × Addr)) (fp : List Addr),
      let B := blkP (L2H.cxH CX0 P w K mg base N qual (defScope st) f cdv A outer s H E0 p) p s' H' scope (compEnvC scope cl C (L2H.cxH CX0 P w K mg base N qual (defScope st) f cdv A outer s H E0 p).env) fp
      PGs B [.Name n1 p2, .Name n2 p3] (gCons (gName 2) (gCons (gName 3) gNil)) ∧ (assignEach [.Name n1 p2, .Name n2 p3] B.env).length = 2 ∧ (assignEach [.Name n1 p2, .Name n2 p3] B.env).findIdx? (·.1) = none ∧ PE B (.Name n2 p6) (tVar 3) ∧ PE B (.Name n1 p1) (tVar 2)) :
    KinH P w K mg base (k + 1) f fd D d := by
  refine kin_run F S fun cdv A outer s H Q a oe hot hr hz hf O ho goal => ?_
  obtain ⟨t, mk⟩ := h1 cdv A outer s H a oe hz hf
  have hot' : L2H.Hot1 (L2H.cxH CX0 P w K mg base N qual (defScope st) f cdv A outer s H E0 (a, oe)).A (a, oe) := hot
  have cmp : PE (L2H.cxH CX0 P w K mg base N qual (defScope st) f cdv A outer s H E0 (a, oe)) (.ListComp (.Name n1 p1) [⟨.Tuple [.Name n1 p2, .Name n2 p3] x1 p4, .Name y p5, [.Name n2 p6], 0⟩] scope p7) (tLc (iList K (tVar 1)) (gTup K 2 (gCons (gName 2) (gCons (gName 3) gNil))) (fun σ H Q => tVar 3 σ H fun x H' => ∃ k, TruV K x H' k ∧ Q k H') (tVar 2) [2, 3]) := by
    refine pe_lcH (p := (a, oe)) (own := [(n1, 2), (n2, 3)]) hot' List.mem_cons_self S.nd (pi_listH (hvy cdv A outer s H (a, oe))) ok (fun s' H' C cl fp => ?_) (fun s' H' C cl fp => ?_) fun s' H' C cl fp => ?_
    · obtain ⟨i1, i2, i3, i4, i5⟩ := hin cdv A outer s H (a, oe) s' H' C cl fp
      exact pg_tupH (n := 2) ⟨(a, oe), hot', List.mem_cons_self⟩ i1 i2 i3
    · obtain ⟨i1, i2, i3, i4, i5⟩ := hin cdv A outer s H (a, oe) s' H' C cl fp
      exact pts_one (pt_truth i4 fun _ => rfl)
    · obtain ⟨i1, i2, i3, i4, i5⟩ := hin cdv A outer s H (a, oe) s' H' C cl fp
      exact i5
  rw [hb]
  refine ⟨_, pss_cons (ps_set S.nd (by show N[1]? = some y; rw [hN]; rfl) hlo (pe_lst mk.pa) (hs cdv A outer s H (a, oe)) (.inr hly)) (pss_one (ps_ret cmp)), ?_⟩
  refine mk.sd _ H O _ ho rfl fun ws H1 e1 hw => ⟨by rw [dpAll_len hw]; exact hL, fun p hp => ?_⟩
  have ho1 : ∀ l ∈ O, ∃ o, H1 l = some o := fun l hl => by
    obtain ⟨o, z⟩ := ho l hl
    exact ⟨o, e1 _ _ z⟩
  subst hN
  have sl : Sl K [] H O O (L2.start [("e" : Str), y, n1, n2] [V.ref a]) (upd H1 p (.lst ws)) [none, none, none, none] := by
    refine ⟨e1.trans (Ex.new hp), fun l h => .inl h, fun l h => h, fun l h => (by
      obtain ⟨o, z⟩ := ho1 l h
      exact ⟨o, Ex.new hp _ _ z⟩), fun i d' h _ => ?_, fun i d' h _ => ?_, fun i j d' e' l hi => (by cases hi), rfl⟩
    · match i, h with
      | 0, h => cases h
      | 1, h => cases h
      | 2, h => cases h
      | 3, h => cases h
    · match i, h with
      | 0, h => cases h
      | 1, h => cases h
      | 2, h => cases h
      | 3, h => cases h
  have sl2 := sl.set (i := 1) (v := .ref p) (d := .list L) (fun h => by cases h) (new_list ho1 hp hw)
  have F0 : Fam (fun i : Empty => (Empty.elim i : Cx)) K [("e" : Str), y, n1, n2] 0 := ⟨(fun i => Empty.elim i), (fun i => Empty.elim i), (fun i => Empty.elim i), (fun i => Empty.elim i), S.nd⟩
  have hg : SndG K [] (gTup K 2 (gCons (gName 2) (gCons (gName 3) gNil))) (gT 2 (gsC (gB 2) (gsC (gB 3) gsN))) :=
    (g_tup (pos := p4) (q := x1) F0 (gs_cons (e := .Name n1 p2) (g_name F0 2 (fun h => by cases h) rfl (fun i => Empty.elim i) (fun i => Empty.elim i)) (gs_cons (e := .Name n2 p3) (g_name F0 3 (fun h => by cases h) rfl (fun i => Empty.elim i) (fun i => Empty.elim i)) gs_nil (fun i => Empty.elim i)) (fun i => Empty.elim i)) (fun i => Empty.elim i) (fun i => Empty.elim i)).sd
  have ht : SndT K [] (fun σ H Q => tVar 3 σ H fun x H' => ∃ k, TruV K x H' k ∧ Q k H') (mTru (mVar 3)) := (t_tru F0 (q_of (d_var (X := fun i : Empty => (Empty.elim i : Cx)) (pos := p6) (x := n2) 3 (fun h => by cases h) (fun i => Empty.elim i))) (fun i => Empty.elim i)).sd
  have he : Snd K [] (tVar 2) (mVar 2) := (d_var (X := fun i : Empty => (Empty.elim i : Cx)) (pos := p1) (x := n1) 2 (fun h => by cases h) (fun i => Empty.elim i)).sd
  have lc := snd_lc (K := K) (M := []) (vs := [2, 3]) (wi := iList K (tVar 1)) (mi := mItL (mVar 1)) (fun H0 O0 O σ H env ds s hm R q => by
    obtain ⟨dd, g1, g2⟩ := bind1 hm
    cases dd with
    | list xs =>
      cases g2
      obtain ⟨v, g3, g4⟩ := s.sh 1 _ (join_some g1) (fun h => by cases h)
      cases g4 with
      | lst hs ha => exact ⟨_, g3, _, rfl, ⟨_, cut_ex.sl hs⟩, q _ H (Ex.refl H) (wk_list (fun H' O' a _ => cut_ex.sl (a.sl hs)) ha)⟩
    | _ => cases g2) hg (fun x σ H Q q => by
      have := gk_tup (K := K) (n := 2) (gk_cons1 (vs := [2, 3]) (j := 2) (by decide) (gk_cons1 (j := 3) (by decide) gk_nil)) x (wipe σ [2, 3]) H Q q
      rw [wipe_wipe] at this
      exact this) ht he
  exact lc H O O _ _ _ d sl2 hm _ fun v H2 e2 hv => goal v H2 ((e1.trans (Ex.new hp)).trans e2) hv
end

end Rv
namespace Rv
open PySem L2 PySem.Spec PyProof.Rows
/-! The data layer, part R: f-strings; errors made of any one thing; defs with a keyword-only default; try with the suite that hands the error on. -/
section
variable {ι : Type} {X : ι → Cx} {W : ι → WX} {K : PySem.W.Frag} {mg : Str → Option Value} {N : List Str} {k : Nat} {M : List Nat} {a b c e tg : Expr} {ta tb tc te : TE} {ma mb mc me : En → Option PyData} {pos : Pos}
/-! ### f-strings -/
def SndJ (K : PySem.W.Frag) (M : List Nat) (t : TE) (m : En → Option Str) : Prop :=
  ∀ H0 O0 O σ H env y, Sl K M H0 O0 O σ H env → m env = some y → ∀ Q : VK, (∀ H2, Ex H H2 → Q (.str y) H2) → t σ H Q
def mJs : List (En → Option Str) → Str → En → Option Str
  | [], acc, _ => some acc
  | m :: ms, acc, env => (m env).bind fun y => if (acc ++ y).length ≤ sizeLine then mJs ms (acc ++ y) env else none
structure MJ {ι : Type} (X : ι → Cx) (K : PySem.W.Frag) (M : List Nat) (es : List Expr) (ts : List TE) (ms : List (En → Option Str)) : Prop where
  pj : ∀ i, PJ (X i) es ts
  sd : ∀ H0 O0 O σ H env acc y, Sl K M H0 O0 O σ H env → mJs ms acc env = some y → ∀ Q : Str → Hp → Prop, (∀ H2, Ex H H2 → Q y H2) → tJs ts acc σ H Q
theorem j_nil : MJ X K M [] [] [] := ⟨fun _ => .nil, fun H0 O0 O σ H env acc y s hm Q q => by
  cases hm
  exact q H (Ex.refl H)⟩
theorem snd_jcons {t : TE} {m : En → Option Str} {es : List Expr} {ts : List TE} {ms : List (En → Option Str)} (hp : ∀ i, PE (X i) e t) (h : SndJ K M t m) (r : MJ X K M es ts ms) : MJ X K M (e :: es) (t :: ts) (m :: ms) := ⟨fun i => .cons (hp i) (r.pj i), fun H0 O0 O σ H env acc y s hm Q q => by
  obtain ⟨z, g1, g2⟩ := bind1 (show ((m env).bind fun y => if (acc ++ y).length ≤ sizeLine then mJs ms (acc ++ y) env else none) = some y from hm)
  by_cases hz : (acc ++ z).length ≤ sizeLine
  · rw [if_pos hz] at g2
    exact h H0 O0 O σ H env z s g1 _ fun H1 e1 => ⟨z, rfl, hz, r.sd H0 O0 O σ H1 env (acc ++ z) y (s.ex e1) g2 Q fun H2 e2 => q H2 (e1.trans e2)⟩
  · rw [if_neg hz] at g2
    cases g2⟩
def mLit (x : Str) : En → Option Str := fun _ => some x
theorem j_lit {x : Str} {j : Nat} {p : Pos} {es : List Expr} {ts : List TE} {ms : List (En → Option Str)} (r : MJ X K M es ts ms) : MJ X K M (.Constant (.str x) j p :: es) (tC (.str x) :: ts) (mLit x :: ms) := snd_jcons (fun _ => pe_str) (fun H0 O0 O σ H env y s hm Q q => by
  cases hm
  exact q H (Ex.refl H)) r
def fmtD : PyData → Option Str
  | .str y => if y.length ≤ sizeLine then some y else none
  | .int i => if i.natAbs.log2 < 1920 then some (toString i) else none
  | _ => none
def mFmt (m : En → Option PyData) : En → Option Str := fun env => (m env).bind fmtD
theorem j_fmt {p : Pos} {es : List Expr} {ts : List TE} {ms : List (En → Option Str)} (h : MD X K M e te me) (r : MJ X K M es ts ms) : MJ X K M (.FormattedValue e (-1) none p :: es) (tFmt te :: ts) (mFmt me :: ms) := snd_jcons (fun i => pe_fmt (h.pe i)) (fun H0 O0 O σ H env y s hm Q q => by
  obtain ⟨d, g1, g2⟩ := bind1 hm
  refine h.sd H0 O0 O σ H env d s g1 _ fun v H1 e1 hv => ?_
  cases d with
  | str z =>
    obtain ⟨hz, e⟩ := ite_some g2
    subst e
    cases hv
    exact .inl ⟨_, rfl, hz, q H1 e1⟩
  | int i =>
    obtain ⟨hz, e⟩ := ite_some g2
    subst e
    cases hv
    exact .inr ⟨_, rfl, hz, q H1 e1⟩
  | _ => cases g2) r
def mFs (ms : List (En → Option Str)) : En → Option PyData := fun env => (mJs ms Str.empty env).bind fun y => some (.str y)
theorem d_fstr {v1 v2 : Expr} {es : List Expr} {ts : List TE} {ms : List (En → Option Str)} (h : MJ X K M (v1 :: v2 :: es) ts ms) : MD X K M (.JoinedStr (v1 :: v2 :: es) pos) (fun σ H Q => tJs ts Str.empty σ H fun out H1 => Q (.str out) H1) (mFs ms) := ⟨fun i => pe_joined (h.pj i), fun H0 O0 O σ H env d s hm Q q => by
  obtain ⟨y, g1, g2⟩ := bind1 hm
  cases g2
  exact h.sd H0 O0 O σ H env _ y s g1 _ fun H2 e2 => q _ H2 e2 (.str _)⟩

/-! ### raise C(e) -/
theorem pmk_any {Y : Cx} {C : Addr} {bmB : List Value} {B newId initId : String} {x : Str} {p : Pos} (F : ExcBaseFacts B newId initId bmB) (q : PySem.W.excIn Y.K C bmB newId = true) (gC : Y.mg x = some (.ref C)) (kC : PySem.W.keepIn Y.K (.ref C) = true) (r : Raises Y (.ref C)) (hg : Gl Y x) (he : PE Y e te)
    (hdb : (x == ("__debug__" : Str)) = false := by decide) (hst : starEach [e] Y.env = (false, eval e Y.env) :: starEach [] Y.env := by rfl) : L2N.PMk Y (.Call (.Name x p) [e] [] pos) (fun σ H Q => tCons te tNil σ H fun vs H1 => vs.length = 1 ∧ Q (.ref C) none H1) := by
  intro pins s σ H Q I h
  (refine wpAny_Call_Name_kw (ld_glob I hg gC ?_ hdb))
  have ha : PA Y [e] (tCons te tNil) := pa_cons he pa_nil hst
  refine PySem.W.callWith_K (h₀ := Y.base) I.ok.mod.kin kC (thn (ha.run pos pins s σ H _ I h) fun us s1 hh => ?_) hst
  obtain ⟨vs, H1, I1, r1, ev, h1⟩ := hh
  obtain ⟨v, rfl⟩ : ∃ v, vs = [v] := by
    match vs, ev with
    | [v], _ => exact ⟨v, rfl⟩
  refine ⟨I1.kIn, ?_⟩
  cases r1 with
  | cons ru rn =>
    rename_i u us2
    cases rn
    (show wpAny _ _ (call (.ref C) [u]) _ _ _)
    obtain ⟨bm, Nn, nm, qn, bs, hdct, sn, sub, ab, col, dd, k0, k1, k2, k3, k5, mN, hC, hN, hni, T⟩ := exc_obj I1.kIn q
    refine wpAny_call_exc_subT F T hC hN hni (fun h2 e2 hm => ?_) (by show 1 ≤ sizeLine; rw [sizeLine_eq]; omega)
    exact L2N.mk_of I1 hm r h1 (I1.hok.gone hm.new)
theorem x_raiseA {cn : Str} {C : Addr} {p : Pos} (F : Fam X K N k) (hC : mg cn = some (.ref C)) (tk : ∀ i, L2N.Takes (X i) (W i)) (h : MD X K M e te me) (mk : ∀ i, L2N.PMk (X i) (.Call (.Name cn p) [e] [] pos) (fun σ H Q => tCons te tNil σ H fun vs H1 => vs.length = 1 ∧ Q (.ref C) none H1)) {rp : Pos} :
    MX X W K mg M (.Raise (some (.Call (.Name cn p) [e] [] pos)) none rp) (fun V _ σ H => tCons te tNil σ H fun vs H1 => vs.length = 1 ∧ V (.ref C) none σ H1) (fun env => (me env).bind fun _ => some (.xc cn env)) :=
  ⟨fun i => L2N.ps_raise (F.calm i) (tk i) (mk i), fun V H0 O0 O σ H env fx D s hm q => by
    obtain ⟨d, g1, g2⟩ := bind1 hm
    cases g2
    exact h.sd H0 O0 O σ H env d s g1 _ fun v H1 e1 _ => ⟨rfl, q C σ H1 O hC (s.ex e1) (cut_mono e1)⟩⟩

/-! ### calls of defs that may raise, with what they lack filled in -/
def mCXd (f : List PyData → Option (PyData ⊕ Str)) (ms : En → Option (List PyData)) (dd : List PyData) (g : PyData → En → Option Fl) : En → Option Fx := fun env => (ms env).bind fun ds => (f (ds ++ dd)).bind fun r => match r with
  | .inl d => (g d env).bind fun fl => some (.fl fl)
  | .inr c => some (.xc c env)
theorem snd_callXd {n : Nat} {fn : List PyData → Option (PyData ⊕ Str)} {t : TA} {ms : En → Option (List PyData)} {dvs : List V} {dd : List PyData} {g : PyData → En → Option Fl} {T : TE → TS} (h : SndA K M t ms) (hd : ∀ H, DpAll K H dvs dd) (hl : ∀ env ds, ms env = some ds → (ds ++ dd).length = n)
    (hT : ∀ (u : TE) (D : Ends) (σ : L2.St) (H : Hp), (u σ H fun v H1 => T (fun σ' H' Q => Q v H') D σ H1) → T u D σ H)
    (hg : ∀ H0 O0 O σ H env d v fl D, Sl K M H0 O0 O σ H env → Dp K (cut H O) v d → g d env = some fl → Cont K M H0 O0 O H D fl → T (fun σ' H' Q => Q v H') D σ H) :
    SndX K M mg (fun V => T (tCallSD (spX K mg n fn) dvs (WE V) t)) (mCXd fn ms dd g) := fun V H0 O0 O σ H env fx D s hm q => by
  obtain ⟨ds, g1, g2⟩ := bind1 hm
  obtain ⟨r, g3, g4⟩ := bind1 g2
  refine hT _ D σ H ?_
  refine h H0 O0 O σ H env ds s g1 _ fun vs H1 e1 hv => ?_
  have hv2 := dpAll_app hv (hd (cut H1 O))
  refine ⟨ds ++ dd, r, O, by rw [dpAll_len hv2]; exact hl env ds g1, (s.ex e1).there, hv2, g3, fun d er v H2 e2 hd => ?_, fun cn er C H2 hC e2 => ?_⟩
  · subst er
    obtain ⟨fl, g5, g6⟩ := bind1 g4
    cases g6
    exact hg H0 O0 O σ H2 env d v fl D ((s.ex e1).ex e2) hd g5 (Cont.weaken (cut_mono (e1.trans e2)) q)
  · subst er
    cases g4
    exact q C σ H2 O hC ((s.ex e1).ex e2) (cut_mono (e1.trans e2))
/-- x = f(..), defaults behind -/
theorem x_callAd {n : Nat} {fn : List PyData → Option (PyData ⊕ Str)} {t : TA} {ms : En → Option (List PyData)} {dvs : List V} {dd : List PyData} {ce : Expr} (F : Fam X K N k) (i : Nat) {x : Str} {pos' : Pos} (hp : ∀ i, PE (X i) ce (tCallSD (spX K mg n fn) dvs (WE (W i)) t)) (h : SndA K M t ms) (hd : ∀ H, DpAll K H dvs dd) (hl : ∀ env ds, ms env = some ds → (ds ++ dd).length = n) (hi : i ∉ M := by decide) (hx : N[i]? = some x := by rfl) (hlo : ∀ j, Loc (X j).env.scope x := by first | exact fun _ => Or.inl rfl | exact fun _ => Or.inr rfl)
    (hs : ∀ j, swapsWith ce (some (.Name x pos')) pos.line (X j).env = pure false := by exact fun _ => rfl) (hf : ∀ j, (X j).fn x = true ∨ (X j).env.scope.names.lookup x = some .local := by first | exact fun _ => .inl rfl | exact fun _ => .inr rfl) :
    MX X W K mg M (.Assign [.Name x pos'] ce pos) (fun V => tAsg (tCallSD (spX K mg n fn) dvs (WE V) t) (gName i)) (mCXd fn ms dd fun d env => some (.nx (env.set i (some d)))) :=
  ⟨fun j => ps_set (by rw [F.hN j]; exact F.nd) (by rw [F.hN j]; exact hx) (hlo j) (hp j) (hs j) (hf j), snd_callXd (T := fun u => tAsg u (gName i)) h hd hl (fun _ _ _ _ q => q) fun H0 O0 O σ H env d v fl D s hv hgo q => by
    cases hgo
    exact q _ H O (s.set hi hv) (Ex.refl _)⟩
/-! keywords -/
def tCallKS (sp : Sp) (gV : List V → List V → List V) (E : L2.St → XK) (n m : Nat) (t tk : TA) : TE := fun σ H Q => t σ H fun vs H1 => tk σ H1 fun zs H2 => vs.length = n ∧ zs.length = m ∧ sp (gV vs zs) H2 Q (E σ)
theorem pe_callKS {Y : Cx} {CX : CXT} {j n : Nat} {f : Addr} {fd : FuncData} {ps ks : List Str} {sp : Sp} {E : L2.St → XK} {x : Str} {p : Pos} {es : List Expr} {kws : List Keyword} {t tk : TA} {g : List Value → List Value → List Value} {gV : List V → List V → List V} (G : FnOk Y.prog Y.w Y.K Y.mg Y.base CX j f fd ps sp) (hr : Room j Y.A) (hg : Gl Y x) (hm : Y.mg x = some (.ref f)) (hk : PySem.W.keepIn Y.K (.ref f) = true) (hb : KBn Y.K fd ps n ks g gV) (hx : ∀ σ, PassesAt CX Y σ (E σ))
    (ha : PA Y (e :: es) t) (hkw : PK Y kws tk) (hall : (backToKw pos (keywordEach kws Y.env)).all (·.1.isSome) = true := by rfl) (hks : (backToKw pos (keywordEach kws Y.env)).filterMap (·.1) = ks := by rfl)
    (hdb : (x == ("__debug__" : Str)) = false := by decide) (he : starEach (e :: es) Y.env = (false, eval e Y.env) :: starEach es Y.env := by rfl)
    (hpl : ((backTo pos (starEach (e :: es) Y.env)).any (·.1) || (backToKw pos (keywordEach kws Y.env)).any (·.1.isNone)) = false := by rfl) :
    PE Y (.Call (.Name x p) (e :: es) kws pos) (tCallKS sp gV E n ks.length t tk) := by
  (refine ⟨fun pins s σ H Q I h => ?_⟩)
  (refine wpAny_Call_Name_kw (ld_glob I hg hm ?_ hdb))
  refine PySem.W.callWith_KW (h₀ := Y.base) I.ok.mod.kin hk hall (thn (ha.run pos pins s σ H _ I h) fun us s1 got => ?_) hpl he
  obtain ⟨vs, H1, I1, r, q⟩ := got
  refine thn (hkw.run pos pins s1 σ H1 _ I1 q) fun ws s2 got => ?_
  obtain ⟨zs, H2, I2, rz, l1, l2, q2⟩ := got
  refine ⟨I2.kIn, ?_⟩
  rw [hks]
  have r2 := hb.rel r rz
  have b := hb.to s2 us ws I2.kIn (by rw [← r.length]; exact l1) (by rw [← rz.length]; exact l2)
  refine wpAny_call (codeAny_mono (G.run Y.A Y.stack s2 H2 ⟨us, ks.zip ws⟩ (g us ws) (gV vs zs) Q (E σ) hr I2.env0 b r2 q2) fun r s' hq => ?_)
  cases r with
  | error e => exact hx σ pins H2 s2 e s' I2 hq
  | ok fl =>
    cases fl with
    | ret u => exact I2.after hq
    | next => exact False.elim hq
    | brk => exact False.elim hq
    | cont => exact False.elim hq
structure MKw {ι : Type} (X : ι → Cx) (K : PySem.W.Frag) (M : List Nat) (kws : List Keyword) (t : TA) (m : En → Option (List PyData)) : Prop where
  pk : ∀ i, PK (X i) kws t
  sd : SndA K M t m
theorem kw_nil : MKw X K M [] tNil mNil := ⟨fun _ => pk_nil, (a_nil (X := X)).sd⟩
theorem kw_cons {kws : List Keyword} {tr : TA} {mr : En → Option (List PyData)} {nm : Option Str} {kp : Pos} (h : MD X K M e te me) (hr : MKw X K M kws tr mr) : MKw X K M (⟨nm, e, kp⟩ :: kws) (tCons te tr) (mCons me mr) := ⟨fun i => pk_cons (h.pe i) (hr.pk i), fun H0 O0 O σ H env ds s hm Q q => by
  obtain ⟨d, r, h1, h2, h3⟩ := bind2 hm
  cases h3
  refine h.sd H0 O0 O σ H env d s h1 _ fun x H1 e1 hx => ?_
  exact hr.sd H0 O0 O σ H1 env r (s.ex e1) h2 _ fun xs H2 e2 hxs => q _ H2 (e1.trans e2) (.cons (dp_ex (cut_mono e2) hx) hxs)⟩
def mCXk (f : List PyData → Option (PyData ⊕ Str)) (ms mk : En → Option (List PyData)) (g : PyData → En → Option Fl) : En → Option Fx := fun env => (ms env).bind fun ds => (mk env).bind fun zs => (f (ds ++ zs)).bind fun r => match r with
  | .inl d => (g d env).bind fun fl => some (.fl fl)
  | .inr c => some (.xc c env)
theorem x_callAk {n m : Nat} {fn : List PyData → Option (PyData ⊕ Str)} {t tk : TA} {ms mk : En → Option (List PyData)} {ce : Expr} (F : Fam X K N k) (i : Nat) {x : Str} {pos' : Pos} (hp : ∀ i, PE (X i) ce (tCallKS (spX K mg (n + m) fn) (fun vs zs => vs ++ zs) (WE (W i)) n m t tk)) (h : SndA K M t ms) (h2 : SndA K M tk mk) (hl : ∀ env ds, ms env = some ds → ds.length = n) (hl2 : ∀ env ds, mk env = some ds → ds.length = m) (hi : i ∉ M := by decide) (hx : N[i]? = some x := by rfl) (hlo : ∀ j, Loc (X j).env.scope x := by first | exact fun _ => Or.inl rfl | exact fun _ => Or.inr rfl)
    (hs : ∀ j, swapsWith ce (some (.Name x pos')) pos.line (X j).env = pure false := by exact fun _ => rfl) (hf : ∀ j, (X j).fn x = true ∨ (X j).env.scope.names.lookup x = some .local := by first | exact fun _ => .inl rfl | exact fun _ => .inr rfl) :
    MX X W K mg M (.Assign [.Name x pos'] ce pos) (fun V => tAsg (tCallKS (spX K mg (n + m) fn) (fun vs zs => vs ++ zs) (WE V) n m t tk) (gName i)) (mCXk fn ms mk fun d env => some (.nx (env.set i (some d)))) :=
  ⟨fun j => ps_set (by rw [F.hN j]; exact F.nd) (by rw [F.hN j]; exact hx) (hlo j) (hp j) (hs j) (hf j), fun V H0 O0 O σ H env fx D s hm q => by
    obtain ⟨ds, zs, g1, g2, g3⟩ := bind2 hm
    obtain ⟨r, g4, g5⟩ := bind1 g3
    refine h H0 O0 O σ H env ds s g1 _ fun vs H1 e1 hv => ?_
    refine h2 H0 O0 O σ H1 env zs (s.ex e1) g2 _ fun ws H2 e2 hw => ?_
    have s2 := (s.ex e1).ex e2
    have hv2 := dpAll_app (dpAll_ex (cut_mono e2) hv) hw
    refine ⟨by rw [dpAll_len hv]; exact hl env ds g1, by rw [dpAll_len hw]; exact hl2 env zs g2, ds ++ zs, r, O, ?_, s2.there, hv2, g4, fun d er v H3 e3 hd => ?_, fun cn er C H3 hC e3 => ?_⟩
    · rw [dpAll_len hv2, List.length_append, hl env ds g1, hl2 env zs g2]
    · subst er
      cases g5
      exact q _ H3 O ((s2.ex e3).set hi hd) (cut_mono ((e1.trans e2).trans e3))
    · subst er
      cases g5
      exact q C σ H3 O hC (s2.ex e3) (cut_mono ((e1.trans e2).trans e3))⟩
end

/-! ### try: .., except C as e: x = f(e) -/
/-- the contexts of a try's body -/
structure TIx {ι : Type} (X : ι → Cx) where
  i : ι
  W : WX
  pn : List (Addr × Obj)
  xe : Value → Shared → Prop
  tk : L2N.Takes ((X i).tr pn xe) W
  po : PassesOwn (model (X i).prog (X i).w) (X i).A (X i).env xe
abbrev tryF {ι : Type} (X : ι → Cx) : TIx X → Cx := fun q => (X q.i).tr q.pn q.xe
section
variable {ι : Type} {X : ι → Cx} {K : PySem.W.Frag} {mg : Str → Option Value} {base : Heap} {P : Program} {w : World} {N : List Str} {k : Nat} {M : List Nat}
theorem tryF_fam (F : Fam X K N k) : Fam (tryF X) K N k := ⟨fun q => F.hK q.i, fun q => F.calm q.i, fun q => F.room q.i, fun q => F.hN q.i, F.nd⟩
theorem takesN0 {Y : Cx} : L2N.Takes Y (fun _ _ _ _ => False) := fun _ _ x => by
  (obtain ⟨_, _, _, _, _, _, _, _, _, _, _, _, _, _, _, _, z⟩ := x)
  exact z.elim
def mTry (m : En → Option Fx) (kin : Str → Option PyData) (i j : Nat) : En → Option Fl := fun env => (m env).bind fun fx => match fx with
  | .fl f => some f
  | .xc c env' => if i < env'.length then (kin c).bind fun d => some (.nx ((env'.set j (some d)).set i none)) else none
/-- what the suite is to reach -/
def tKin (P : Program) (w : World) (K : PySem.W.Frag) (mg : Str → Option Value) (base : Heap) (kk : Nat) (f : Addr) (fd : FuncData) (i j : Nat) : Addr → Value → Option Addr → TS := fun a cls d D σ H =>
  σ[i]? = some (some (.ref a)) ∧ ∃ Dd dat O, cls = .ref Dd ∧ d = none ∧ KinH P w K mg base kk f fd Dd dat ∧ (∀ l ∈ O, ∃ o, H l = some o) ∧ ∀ v H2, Ex H H2 → Dp K (cut H2 O) v dat → D.nx (σ.set j (some v)) H2
theorem pe_kin {Y : Cx} {a f : Addr} {oe : Obj} {fd : FuncData} {kk i : Nat} {dat : PyData} {D : Addr} {fnm n : Str} {p1 p2 p3 : Pos} (kin : KinH Y.prog Y.w Y.K Y.mg Y.base kk f fd D dat) (hr : L2H.RoomH kk Y.A) (hot : L2H.Hot1 Y.A (a, oe)) (hp : (a, oe) ∈ Y.pn) (hz : Zc (.ref D) none oe) (hf : ∃ vs, oe.data = .fields vs)
    (hg : Gl Y fnm) (hm : Y.mg fnm = some (.ref f)) (hk : PySem.W.keepIn Y.K (.ref f) = true) (hb : Binds Y.K fd [("e" : Str)] []) (he : PE Y (.Name n p2) (tVar i)) (hdb : (fnm == ("__debug__" : Str)) = false := by decide)
    (hst : starEach [.Name n p2] Y.env = (false, eval (.Name n p2) Y.env) :: starEach [] Y.env := by rfl) :
    PE Y (.Call (.Name fnm p1) [.Name n p2] [] p3) (fun σ H Q => σ[i]? = some (some (.ref a)) ∧ ∃ O, (∀ l ∈ O, ∃ o, H l = some o) ∧ ∀ v H2, Ex H H2 → Dp Y.K (cut H2 O) v dat → Q v H2) := by
  (refine ⟨fun pins s σ H Q I h => ?_⟩)
  obtain ⟨hσ, O, ho, goal⟩ := h
  (refine wpAny_Call_Name_kw (ld_glob I hg hm ?_ hdb))
  have ha : PA Y [.Name n p2] (tCons (tVar i) tNil) := pa_cons he pa_nil hst
  refine PySem.W.callWith_K (h₀ := Y.base) I.ok.mod.kin hk (thn (ha.run p3 pins s σ H (fun vs H1 => vs = [V.ref a] ∧ H = H1) I ⟨_, hσ, rfl, rfl⟩) fun us s1 hh => ?_) hst
  (obtain ⟨vs, H1, I1, r1, ev, eH⟩ := hh)
  subst ev
  subst eH
  refine ⟨I1.kIn, ?_⟩
  cases r1 with
  | cons ru rn =>
    cases rn
    cases ru
    have pin := I1.pin (a, oe) (List.mem_append_left _ hp)
    have hpin : L2H.PinOk Y.stack H s1 (a, oe) := ⟨pin.1, pin.2.1, fun hm => (List.mem_cons.mp (I1.stkSub a hm)).elim pin.2.2.1 pin.2.2.2.1, pin.2.2.2.2⟩
    have bind := hb s1 [.ref a] I1.kIn rfl
    refine wpAny_call (codeAny_mono (kin Y.A Y.stack s1 H Q a oe hr hot hpin I1.env0 bind hz hf O ho goal) fun r s2 hq => ?_)
    cases r with
    | error e => (exact False.elim hq)
    | ok fl =>
      cases fl with
      | ret u => exact I1.after hq
      | next => exact False.elim hq
      | brk => exact False.elim hq
      | cont => exact False.elim hq
theorem sets_end {α : Type} {l : List (Option α)} {i j : Nat} {x y : Option α} (h : i ≠ j) : ((l.set i x).set j y).set i none = (l.set j y).set i none := by
  rw [List.set_comm _ _ h, List.set_set]
theorem s_tryKin (F : Fam X K N k) (i j : Nat) {xn n y fnm : Str} {CV f : Addr} {fd : FuncData} {kk : Nat} {body : List Stmt} {t : WX → TS} {m : En → Option Fx} {kin : Str → Option PyData} {np py p1 p2 p3 p4 pos' pos : Pos}
    (hP : ∀ q, (X q).prog = P) (hw : ∀ q, (X q).w = w) (hmg : ∀ q, (X q).mg = mg) (hbs : ∀ q, (X q).base = base) (hb : MXs (tryF X) (fun q => q.W) K mg M body t m)
    (hkin : ∀ c d, kin c = some d → ∃ D, mg c = some (.ref D) ∧ PySem.W.exmOne K (.ref D) (.ref CV) = some true ∧ KinH P w K mg base kk f fd D d)
    (hkk : kk ≤ k) (hm : mg fnm = some (.ref f)) (hk : PySem.W.keepIn K (.ref f) = true) (hbd : Binds K fd [("e" : Str)] []) (hc : mg xn = some (.ref CV))
    (hi : i ∉ M := by decide) (hj : j ∉ M := by decide) (hij : i ≠ j := by decide) (hin : N[i]? = some n := by rfl) (hjn : N[j]? = some y := by rfl)
    (hs : ∀ q, (X q).stack = (X q).env :: (X q).outer := by exact fun _ => rfl) (hf : ∀ q, (X q).env.frame = some (X q).env.locals := by exact fun _ => rfl) (hln : ∀ q, (X q).env.kindOf n = some .local := by exact fun _ => rfl) (hgx : ∀ q, Gl (X q) xn := by exact fun _ => rfl) (hdx : (xn == ("__debug__" : Str)) = false := by decide)
    (hgf : ∀ q, Gl (X q) fnm := by exact fun _ => rfl) (hdf : (fnm == ("__debug__" : Str)) = false := by decide) (hlo : ∀ q, (X q).env.scope.names.lookup y = some .local := by exact fun _ => rfl)
    (hv : ∀ q a pn, PE ((X q).suite a pn) (.Name n p2) (tVar i) := by exact fun _ _ _ => pv _) (hst : ∀ q a pn, starEach [.Name n p2] ((X q).suite a pn).env = (false, eval (.Name n p2) ((X q).suite a pn).env) :: starEach [] ((X q).suite a pn).env := by exact fun _ _ _ => rfl)
    (hsw : ∀ q a pn, swapsWith (.Call (.Name fnm p1) [.Name n p2] [] p3) (some (.Name y py)) p4.line ((X q).suite a pn).env = pure false := by exact fun _ _ _ => rfl) :
    MS X K M (.Try body [.ExceptHandler (some (.Name xn np)) (some n) [.Assign [.Name y py] (.Call (.Name fnm p1) [.Name n p2] [] p3) p4] pos'] [] [] pos) (fun D σ H => t (wAs K (.ref CV) i (tKin P w K mg base kk f fd i j) (fun _ _ _ _ => False) D) D σ H) (mTry m kin i j) := by
  refine ⟨fun q => ?_, fun H0 O0 O σ H env fl D s hmm goal => ?_⟩
  · have nd : (X q).N.Nodup := by
      rw [F.hN q]
      exact F.nd
    have go := L2N.ps_try_as (X := X q) (tb := t) (ts := tKin P w K mg base kk f fd i j) (Wout := fun _ _ _ _ => False) (pos := pos) (pos' := pos') (np := np) (c := .ref CV) (x := xn) (n := n) (i := i) (body := body) (b₀ := .Assign [.Name y py] (.Call (.Name fnm p1) [.Name n p2] [] p3) p4) (suite := []) (hs q) (hf q) nd (by rw [F.hN q]; exact hin) (hln q) ⟨hgx q, hdx, .inl (by rw [hmg q]; exact hc)⟩ takesN0
      (fun W pn xe tk po => hb.ps ⟨q, W, pn, xe, tk, po⟩) (fun a oe cls d pn hz hfs => ?_)
    · rw [F.hK q] at go
      exact go
    · refine pss_one ⟨fun pins s σ H D I h => ?_⟩
      obtain ⟨hσ, Dd, dat, O, rfl, rfl, kn, ho, goal⟩ := h
      have hot : L2H.Hot1 ((X q).suite a ((a, oe) :: pn)).A (a, oe) := by
        obtain ⟨vs, hd⟩ := hfs
        exact ⟨rfl, vs, hd, hz.2.2 vs hd⟩
      have room : L2H.RoomH kk ((X q).suite a ((a, oe) :: pn)).A := by
        have r := (F.room q).mono hkk
        exact ⟨r.dp, r.un⟩
      have kn2 : KinH ((X q).suite a ((a, oe) :: pn)).prog ((X q).suite a ((a, oe) :: pn)).w ((X q).suite a ((a, oe) :: pn)).K ((X q).suite a ((a, oe) :: pn)).mg ((X q).suite a ((a, oe) :: pn)).base kk f fd Dd dat := by
        show KinH (X q).prog (X q).w (X q).K (X q).mg (X q).base kk f fd Dd dat
        rw [hP q, hw q, F.hK q, hmg q, hbs q]
        exact kn
      have pe := pe_kin (Y := (X q).suite a ((a, oe) :: pn)) (i := i) (fnm := fnm) (n := n) (p1 := p1) (p2 := p2) (p3 := p3) kn2 room hot List.mem_cons_self hz.zc hfs (hgf q) (by show (X q).mg fnm = _; rw [hmg q]; exact hm) (by show PySem.W.keepIn (X q).K _ = true; rw [F.hK q]; exact hk) (by show Binds (X q).K fd _ _; rw [F.hK q]; exact hbd) (hv q a _) hdf (hst q a _)
      refine (ps_set (X := (X q).suite a ((a, oe) :: pn)) (i := j) nd (by show (X q).N[j]? = _; rw [F.hN q]; exact hjn) (.inl (hlo q)) pe (hsw q a _) (.inr (hlo q))).run pins s σ H D I ⟨hσ, O, ho, fun v H2 e2 hv2 => goal v H2 e2 ?_⟩
      have hv3 : Dp (X q).K (cut H2 O) v dat := hv2
      rw [F.hK q] at hv3
      exact hv3
  · obtain ⟨fx, g1, g2⟩ := bind1 hmm
    cases fx with
    | fl f0 =>
      cases g2
      exact hb.sd _ H0 O0 O σ H env (.fl fl) D s g1 goal
    | xc c env' =>
      have g2 : (if i < env'.length then (kin c).bind fun d => some (Fl.nx ((env'.set j (some d)).set i none)) else none) = some fl := g2
      by_cases hlen : i < env'.length
      · rw [if_pos hlen] at g2
        obtain ⟨d, g3, g4⟩ := bind1 g2
        cases g4
        obtain ⟨D1, z1, z2, z3⟩ := hkin c d g3
        refine hb.sd _ H0 O0 O σ H env (.xc c env') D s g1 fun C σ2 H2 O2 hC s2 x2 => ?_
        have eC : C = D1 := Value.ref.inj (Option.some.inj (hC.symm.trans z1))
        subst eC
        refine ⟨true, z2, fun _ a na => ⟨?_, C, d, O2, rfl, rfl, z3, s2.there, fun v H3 e3 hv => ?_⟩, fun z => nomatch z⟩
        · exact List.getElem?_set_self (by rw [s2.len]; exact hlen)
        · show D.nx ((((σ2.set i (some (V.ref a))).set j (some v))).set i none) H3
          rw [sets_end hij]
          exact goal _ H3 O2 (((s2.ex e3).set hj hv).drop) (x2.trans (cut_mono e3))
      · rw [if_neg hlen] at g2
        cases g2
end

end Rv
namespace Rv
open PySem L2 PySem.Spec PyProof.Rows
/-! The data layer, part S: facts of the error classes. -/
section
variable {K : PySem.W.Frag} {D C : Addr} {b : Bool}
/-- an own error class, as the top has left it -/
structure ErrC (K : PySem.W.Frag) (C : Addr) : Prop where
  ty : PySem.W.typeIn K (.ref C) = some (.type "type")
  (ic : PySem.W.isClsIn K C = true)
/-- one that is raised by the program -/
structure ErrR (K : PySem.W.Frag) (C : Addr) : Prop where
  xc : PySem.W.excIn K C [.type "ValueError", .type "Exception", .type "BaseException", .type "object"] "ValueError.__new__" = true
  kc : PySem.W.keepIn K (.ref C) = true
  bc : PySem.W.subIn K (.ref C) (.type "BaseException") = some true
  sc : PySem.W.subIn K (.ref C) (.ref C) = some true
  ec : ExcC K C
theorem kcls_by (e : ErrC K C) (s : PySem.W.subIn K (.ref D) (.ref C) = some b) : PySem.W.kitCls K (.ref D) (.ref C) = some b := by
  have e1 : ((PySem.W.clsIn K C).isSome && PySem.W.typeIn K (.ref C) == some (.type "type")) = true := by
    have z : (PySem.W.clsIn K C).isSome = true := e.ic
    rw [z, e.ty]
    rfl
  show (if ((PySem.W.clsIn K C).isSome && PySem.W.typeIn K (.ref C) == some (.type "type")) = true then PySem.W.subIn K (.ref D) (.ref C) else none) = some b
  rw [if_pos e1]
  exact s
/-- isinstance(e, C) of an error of the class D -/
theorem kit_by (e : ErrC K C) (self : PySem.W.subIn K (.ref D) (.ref D) = some true) (s : PySem.W.subIn K (.ref D) (.ref C) = some b) : PySem.W.kitOne K (.ref D) (.ref C) = some b := by
  unfold PySem.W.kitOne
  by_cases z : (Value.ref D == Value.ref C) = true
  · rw [if_pos z]
    have ez : D = C := by
      have := beq_iff_eq.mp z
      exact Value.ref.inj this
    subst ez
    rw [self] at s
    exact s
  · rw [if_neg z]
    exact kcls_by e s
theorem kit_ty {T : String} (m : PySem.W.kitMeta T = true) (s : PySem.W.subIn K (.ref D) (.type T) = some b) : PySem.W.kitOne K (.ref D) (.type T) = some b := by
  unfold PySem.W.kitOne
  rw [if_neg (by exact Bool.false_ne_true)]
  show (if PySem.W.kitMeta T = true then PySem.W.subIn K (.ref D) (.type T) else none) = some b
  rw [if_pos m]
  exact s
theorem exm_by (e : ErrC K C) (bC : PySem.W.subIn K (.ref C) (.type "BaseException") = some true) (s : PySem.W.subIn K (.ref D) (.ref C) = some b) : PySem.W.exmOne K (.ref D) (.ref C) = some b := by
  unfold PySem.W.exmOne
  rw [if_pos (by rw [bC]; rfl)]
  exact kcls_by e s
end

end Rv
namespace Rv
open PySem L2 PySem.Spec PyProof.Rows
/-! the mirrors of the program's defs, and that they are sound -/
def topS (i : Nat) : Stmt := PySem.Challenge.pw_rowveil_k03_all_worlds_by_hand.main.body.getD i (.Pass ⟨0, 0, 0, 0⟩)
def c_EMPTY : PyData := (.int (-1))
def c_MOST_IN_TABLE : PyData := (.int 12)
def c_MOST_ROWS : PyData := (.int 8)
abbrev s_column_values : Stmt := topS 27
abbrev s_key_of : Stmt := topS 28
abbrev s_possible_rows : Stmt := topS 29
abbrev s_count_rows : Stmt := topS 30
abbrev s_all_contents : Stmt := topS 31
abbrev s_may_follow : Stmt := topS 32
abbrev s_check_few_rows : Stmt := topS 33
abbrev s_all_worlds : Stmt := topS 34
abbrev s_count_contents : Stmt := topS 35
abbrev s_count_worlds : Stmt := topS 36
abbrev s_law_cell_at : Stmt := topS 38
abbrev s_law_draws : Stmt := topS 39
abbrev s_law_name : Stmt := topS 40
abbrev s_law_columns : Stmt := topS 41
abbrev s_law_ground : Stmt := topS 42
abbrev s_law_possible : Stmt := topS 43
abbrev s_law_worlds : Stmt := topS 44
abbrev s_law_kin : Stmt := topS 45
abbrev s_law_all : Stmt := topS 46
abbrev s_law : Stmt := topS 47
structure Txt (K : PySem.W.Frag) (mg : Str → Option Value) (wd : World) where
  n_list : mg "list" = none
  n_range : mg "range" = none
  n_len : mg "len" = none
  n_sorted : mg "sorted" = none
  n_sum : mg "sum" = none
  n_int : mg "int" = none
  n_tuple : mg "tuple" = none
  n_min : mg "min" = none
  n_any : mg "any" = none
  n_max : mg "max" = none
  n_isinstance : mg "isinstance" = none
  n_ValueError : mg "ValueError" = none
  u_EMPTY : Value
  v_EMPTY : V
  mg_EMPTY : mg "EMPTY" = some u_EMPTY
  rl_EMPTY : RelV v_EMPTY u_EMPTY
  dp_EMPTY : ∀ H, Dp K H v_EMPTY c_EMPTY
  u_MOST_IN_TABLE : Value
  v_MOST_IN_TABLE : V
  mg_MOST_IN_TABLE : mg "MOST_IN_TABLE" = some u_MOST_IN_TABLE
  rl_MOST_IN_TABLE : RelV v_MOST_IN_TABLE u_MOST_IN_TABLE
  dp_MOST_IN_TABLE : ∀ H, Dp K H v_MOST_IN_TABLE c_MOST_IN_TABLE
  u_MOST_ROWS : Value
  v_MOST_ROWS : V
  mg_MOST_ROWS : mg "MOST_ROWS" = some u_MOST_ROWS
  rl_MOST_ROWS : RelV v_MOST_ROWS u_MOST_ROWS
  dp_MOST_ROWS : ∀ H, Dp K H v_MOST_ROWS c_MOST_ROWS
  f_column_values : Addr
  fd_column_values : FuncData
  F_column_values : Fun K "column_values" "column_values" s_column_values f_column_values fd_column_values
  b_column_values : Binds K fd_column_values ["column"] []
  g_column_values : mg "column_values" = some (.ref f_column_values)
  k_column_values : PySem.W.keepIn K (.ref f_column_values) = true
  f_key_of : Addr
  fd_key_of : FuncData
  F_key_of : Fun K "key_of" "key_of" s_key_of f_key_of fd_key_of
  b_key_of : Binds K fd_key_of ["table", "row"] []
  g_key_of : mg "key_of" = some (.ref f_key_of)
  k_key_of : PySem.W.keepIn K (.ref f_key_of) = true
  f_possible_rows : Addr
  fd_possible_rows : FuncData
  F_possible_rows : Fun K "possible_rows" "possible_rows" s_possible_rows f_possible_rows fd_possible_rows
  b_possible_rows : Binds K fd_possible_rows ["table"] []
  g_possible_rows : mg "possible_rows" = some (.ref f_possible_rows)
  k_possible_rows : PySem.W.keepIn K (.ref f_possible_rows) = true
  f_count_rows : Addr
  fd_count_rows : FuncData
  F_count_rows : Fun K "count_rows" "count_rows" s_count_rows f_count_rows fd_count_rows
  b_count_rows : Binds K fd_count_rows ["columns"] []
  g_count_rows : mg "count_rows" = some (.ref f_count_rows)
  k_count_rows : PySem.W.keepIn K (.ref f_count_rows) = true
  f_all_contents : Addr
  fd_all_contents : FuncData
  F_all_contents : Fun K "all_contents" "all_contents" s_all_contents f_all_contents fd_all_contents
  b_all_contents : Binds K fd_all_contents ["table"] []
  g_all_contents : mg "all_contents" = some (.ref f_all_contents)
  k_all_contents : PySem.W.keepIn K (.ref f_all_contents) = true
  f_may_follow : Addr
  fd_may_follow : FuncData
  F_may_follow : Fun K "may_follow" "may_follow" s_may_follow f_may_follow fd_may_follow
  b_may_follow : Binds K fd_may_follow ["table", "rows", "row"] []
  g_may_follow : mg "may_follow" = some (.ref f_may_follow)
  k_may_follow : PySem.W.keepIn K (.ref f_may_follow) = true
  f_check_few_rows : Addr
  fd_check_few_rows : FuncData
  F_check_few_rows : Fun K "check_few_rows" "check_few_rows" s_check_few_rows f_check_few_rows fd_check_few_rows
  b_check_few_rows : Binds K fd_check_few_rows ["ground", "most"] []
  g_check_few_rows : mg "check_few_rows" = some (.ref f_check_few_rows)
  k_check_few_rows : PySem.W.keepIn K (.ref f_check_few_rows) = true
  f_all_worlds : Addr
  fd_all_worlds : FuncData
  F_all_worlds : Fun K "all_worlds" "all_worlds" s_all_worlds f_all_worlds fd_all_worlds
  ds_all_worlds : List Value
  vd_all_worlds : Vals [.int 8] ds_all_worlds
  bd_all_worlds : Binds K fd_all_worlds ["ground", "most"] ds_all_worlds
  bk_all_worlds : KBn K fd_all_worlds ["ground", "most"] 1 ["most"] (fun us ws => us ++ ws) (fun vs zs => vs ++ zs)
  g_all_worlds : mg "all_worlds" = some (.ref f_all_worlds)
  k_all_worlds : PySem.W.keepIn K (.ref f_all_worlds) = true
  f_count_contents : Addr
  fd_count_contents : FuncData
  F_count_contents : Fun K "count_contents" "count_contents" s_count_contents f_count_contents fd_count_contents
  b_count_contents : Binds K fd_count_contents ["table"] []
  g_count_contents : mg "count_contents" = some (.ref f_count_contents)
  k_count_contents : PySem.W.keepIn K (.ref f_count_contents) = true
  f_count_worlds : Addr
  fd_count_worlds : FuncData
  F_count_worlds : Fun K "count_worlds" "count_worlds" s_count_worlds f_count_worlds fd_count_worlds
  b_count_worlds : Binds K fd_count_worlds ["ground"] []
  g_count_worlds : mg "count_worlds" = some (.ref f_count_worlds)
  k_count_worlds : PySem.W.keepIn K (.ref f_count_worlds) = true
  f_law_cell_at : Addr
  fd_law_cell_at : FuncData
  F_law_cell_at : Fun K "_law_cell_at" "_law_cell_at" s_law_cell_at f_law_cell_at fd_law_cell_at
  b_law_cell_at : Binds K fd_law_cell_at ["script", "k"] []
  g_law_cell_at : mg "_law_cell_at" = some (.ref f_law_cell_at)
  k_law_cell_at : PySem.W.keepIn K (.ref f_law_cell_at) = true
  f_law_draws : Addr
  fd_law_draws : FuncData
  F_law_draws : Fun K "_law_draws" "_law_draws" s_law_draws f_law_draws fd_law_draws
  b_law_draws : Binds K fd_law_draws ["cell", "many", "base"] []
  g_law_draws : mg "_law_draws" = some (.ref f_law_draws)
  k_law_draws : PySem.W.keepIn K (.ref f_law_draws) = true
  f_law_name : Addr
  fd_law_name : FuncData
  F_law_name : Fun K "_law_name" "_law_name" s_law_name f_law_name fd_law_name
  b_law_name : Binds K fd_law_name ["some", "taken"] []
  g_law_name : mg "_law_name" = some (.ref f_law_name)
  k_law_name : PySem.W.keepIn K (.ref f_law_name) = true
  f_law_columns : Addr
  fd_law_columns : FuncData
  F_law_columns : Fun K "_law_columns" "_law_columns" s_law_columns f_law_columns fd_law_columns
  b_law_columns : Binds K fd_law_columns ["picks", "many", "top"] []
  g_law_columns : mg "_law_columns" = some (.ref f_law_columns)
  k_law_columns : PySem.W.keepIn K (.ref f_law_columns) = true
  f_law_ground : Addr
  fd_law_ground : FuncData
  F_law_ground : Fun K "_law_ground" "_law_ground" s_law_ground f_law_ground fd_law_ground
  b_law_ground : Binds K fd_law_ground ["picks", "top"] []
  g_law_ground : mg "_law_ground" = some (.ref f_law_ground)
  k_law_ground : PySem.W.keepIn K (.ref f_law_ground) = true
  f_law_possible : Addr
  fd_law_possible : FuncData
  F_law_possible : Fun K "_law_possible" "_law_possible" s_law_possible f_law_possible fd_law_possible
  b_law_possible : Binds K fd_law_possible ["table"] []
  g_law_possible : mg "_law_possible" = some (.ref f_law_possible)
  k_law_possible : PySem.W.keepIn K (.ref f_law_possible) = true
  f_law_worlds : Addr
  fd_law_worlds : FuncData
  F_law_worlds : Fun K "_law_worlds" "_law_worlds" s_law_worlds f_law_worlds fd_law_worlds
  b_law_worlds : Binds K fd_law_worlds ["ground"] []
  g_law_worlds : mg "_law_worlds" = some (.ref f_law_worlds)
  k_law_worlds : PySem.W.keepIn K (.ref f_law_worlds) = true
  f_law_kin : Addr
  fd_law_kin : FuncData
  F_law_kin : Fun K "_law_kin" "_law_kin" s_law_kin f_law_kin fd_law_kin
  b_law_kin : Binds K fd_law_kin ["e"] []
  g_law_kin : mg "_law_kin" = some (.ref f_law_kin)
  k_law_kin : PySem.W.keepIn K (.ref f_law_kin) = true
  f_law_all : Addr
  fd_law_all : FuncData
  F_law_all : Fun K "_law_all" "_law_all" s_law_all f_law_all fd_law_all
  b_law_all : Binds K fd_law_all ["ground", "limit"] []
  g_law_all : mg "_law_all" = some (.ref f_law_all)
  k_law_all : PySem.W.keepIn K (.ref f_law_all) = true
  f_law : Addr
  fd_law : FuncData
  F_law : Fun K "law" "law" s_law f_law fd_law
  b_law : Binds K fd_law ["script"] []
  g_law : mg "law" = some (.ref f_law)
  k_law : PySem.W.keepIn K (.ref f_law) = true
  C_TooMany : Addr
  mgc_TooMany : mg "TooMany" = some (.ref C_TooMany)
  ec_TooMany : ErrC K C_TooMany
  C_NoAsk : Addr
  mgc_NoAsk : mg "NoAsk" = some (.ref C_NoAsk)
  ec_NoAsk : ErrC K C_NoAsk
  C_NoRight : Addr
  mgc_NoRight : mg "NoRight" = some (.ref C_NoRight)
  ec_NoRight : ErrC K C_NoRight
  C_NoRow : Addr
  mgc_NoRow : mg "NoRow" = some (.ref C_NoRow)
  ec_NoRow : ErrC K C_NoRow
  C_NotLet : Addr
  mgc_NotLet : mg "NotLet" = some (.ref C_NotLet)
  ec_NotLet : ErrC K C_NotLet
  C_Taken : Addr
  mgc_Taken : mg "Taken" = some (.ref C_Taken)
  ec_Taken : ErrC K C_Taken
  C_Full : Addr
  mgc_Full : mg "Full" = some (.ref C_Full)
  ec_Full : ErrC K C_Full
  C_NoCondition : Addr
  mgc_NoCondition : mg "NoCondition" = some (.ref C_NoCondition)
  ec_NoCondition : ErrC K C_NoCondition
  C_NoGround : Addr
  mgc_NoGround : mg "NoGround" = some (.ref C_NoGround)
  ec_NoGround : ErrC K C_NoGround
  C_NoRule : Addr
  mgc_NoRule : mg "NoRule" = some (.ref C_NoRule)
  ec_NoRule : ErrC K C_NoRule
  C_Twice : Addr
  mgc_Twice : mg "Twice" = some (.ref C_Twice)
  ec_Twice : ErrC K C_Twice
  C_NotThere : Addr
  mgc_NotThere : mg "NotThere" = some (.ref C_NotThere)
  ec_NotThere : ErrC K C_NotThere
  C_NoView : Addr
  mgc_NoView : mg "NoView" = some (.ref C_NoView)
  ec_NoView : ErrC K C_NoView
  C_InUse : Addr
  mgc_InUse : mg "InUse" = some (.ref C_InUse)
  ec_InUse : ErrC K C_InUse
  C_NoTable : Addr
  mgc_NoTable : mg "NoTable" = some (.ref C_NoTable)
  ec_NoTable : ErrC K C_NoTable
  C_NoUser : Addr
  mgc_NoUser : mg "NoUser" = some (.ref C_NoUser)
  ec_NoUser : ErrC K C_NoUser
  C_NoneOpen : Addr
  mgc_NoneOpen : mg "NoneOpen" = some (.ref C_NoneOpen)
  ec_NoneOpen : ErrC K C_NoneOpen
  C_TooDeep : Addr
  mgc_TooDeep : mg "TooDeep" = some (.ref C_TooDeep)
  ec_TooDeep : ErrC K C_TooDeep
  C_NoDeeds : Addr
  mgc_NoDeeds : mg "NoDeeds" = some (.ref C_NoDeeds)
  ec_NoDeeds : ErrC K C_NoDeeds
  C_NoText : Addr
  mgc_NoText : mg "NoText" = some (.ref C_NoText)
  ec_NoText : ErrC K C_NoText
  C_NoLine : Addr
  mgc_NoLine : mg "NoLine" = some (.ref C_NoLine)
  ec_NoLine : ErrC K C_NoLine
  C_VeilError : Addr
  mgc_VeilError : mg "VeilError" = some (.ref C_VeilError)
  ec_VeilError : ErrC K C_VeilError
  bv_VeilError : PySem.W.subIn K (.ref C_VeilError) (.type "BaseException") = some true
  er_TooMany : ErrR K C_TooMany
  sub_TooMany_TooMany : PySem.W.subIn K (.ref C_TooMany) (.ref C_TooMany) = some true
  sub_TooMany_NoAsk : PySem.W.subIn K (.ref C_TooMany) (.ref C_NoAsk) = some false
  sub_TooMany_NoRight : PySem.W.subIn K (.ref C_TooMany) (.ref C_NoRight) = some false
  sub_TooMany_NoRow : PySem.W.subIn K (.ref C_TooMany) (.ref C_NoRow) = some false
  sub_TooMany_NotLet : PySem.W.subIn K (.ref C_TooMany) (.ref C_NotLet) = some false
  sub_TooMany_Taken : PySem.W.subIn K (.ref C_TooMany) (.ref C_Taken) = some false
  sub_TooMany_Full : PySem.W.subIn K (.ref C_TooMany) (.ref C_Full) = some false
  sub_TooMany_NoCondition : PySem.W.subIn K (.ref C_TooMany) (.ref C_NoCondition) = some false
  sub_TooMany_NoGround : PySem.W.subIn K (.ref C_TooMany) (.ref C_NoGround) = some false
  sub_TooMany_NoRule : PySem.W.subIn K (.ref C_TooMany) (.ref C_NoRule) = some false
  sub_TooMany_Twice : PySem.W.subIn K (.ref C_TooMany) (.ref C_Twice) = some false
  sub_TooMany_NotThere : PySem.W.subIn K (.ref C_TooMany) (.ref C_NotThere) = some false
  sub_TooMany_NoView : PySem.W.subIn K (.ref C_TooMany) (.ref C_NoView) = some false
  sub_TooMany_InUse : PySem.W.subIn K (.ref C_TooMany) (.ref C_InUse) = some false
  sub_TooMany_NoTable : PySem.W.subIn K (.ref C_TooMany) (.ref C_NoTable) = some false
  sub_TooMany_NoUser : PySem.W.subIn K (.ref C_TooMany) (.ref C_NoUser) = some false
  sub_TooMany_NoneOpen : PySem.W.subIn K (.ref C_TooMany) (.ref C_NoneOpen) = some false
  sub_TooMany_TooDeep : PySem.W.subIn K (.ref C_TooMany) (.ref C_TooDeep) = some false
  sub_TooMany_NoDeeds : PySem.W.subIn K (.ref C_TooMany) (.ref C_NoDeeds) = some false
  sub_TooMany_NoText : PySem.W.subIn K (.ref C_TooMany) (.ref C_NoText) = some false
  sub_TooMany_NoLine : PySem.W.subIn K (.ref C_TooMany) (.ref C_NoLine) = some false
  sub_TooMany_VeilError : PySem.W.subIn K (.ref C_TooMany) (.ref C_VeilError) = some true
  sub_TooMany_ValueError : PySem.W.subIn K (.ref C_TooMany) (.type "ValueError") = some true

/-! column_values, level 1 -/
theorem sc_column_values : FnScope ["column", "name", "size", "may_be_empty"] ["column"] (defScope s_column_values) := ⟨rfl, rfl, rfl, by decide +kernel, rfl, by decide +kernel, by decide +kernel⟩
def mb_column_values : En → Option Fl :=
    (mSeq
    (mAsg (mVar 0) (gT 3 (gsC (gB 1) (gsC (gB 2) (gsC (gB 3) gsN)))))
    (mRet (mLRg (mIf (mTru (mVar 3)) (mC c_EMPTY) (mC (.int 0))) (mVar 2))))
def fm_column_values : List PyData → Option PyData := runB 4 mb_column_values
theorem ok_column_values {P : Program} {w : World} {K : PySem.W.Frag} {mg : Str → Option Value} {base : Heap} (T : Txt K mg w)  : FnOk P w K mg base CX0 1 T.f_column_values T.fd_column_values ["column"] (spD K 1 fm_column_values) := by
  have F := defF_fam (P := P) (w := w) (K := K) (mg := mg) (base := base) (qual := "column_values") (sc := defScope s_column_values) (f := T.f_column_values) (j := 0) sc_column_values.nd
  have hS := fun i => (rfl : (defF P w K mg base ["column", "name", "size", "may_be_empty"] "column_values" (defScope s_column_values) T.f_column_values 0 i).env.scope = defScope s_column_values)
  exact fn_data (M := []) T.F_column_values sc_column_values (by decide)
      (ss_cons
      (s_asg (d_var 0) (g_tup F (gs_cons (g_name F 1) (gs_cons (g_name F 2) (gs_cons (g_name F 3) gs_nil)))))
      (ss_one
      (s_ret (d_listRg2 F (d_if (t_tru F (q_of (d_var 3))) (d_glob T.dp_EMPTY (fun _ => pe_glob rfl T.mg_EMPTY T.rl_EMPTY)) d_int) (d_var 2) (fun _ => T.n_list) (fun _ => T.n_range)))))

/-! key_of, level 1 -/
theorem sc_key_of : FnScope ["table", "row", "key"] ["table", "row"] (defScope s_key_of) := ⟨rfl, rfl, rfl, by decide +kernel, rfl, by decide +kernel, by decide +kernel⟩
def mb_key_of : En → Option Fl :=
    (mSeq
    (mAsg (mBin dIx (mVar 0) (mC (.int 1))) (gB 2))
    (mRet (mIf (mTst (mBin dGt (mVar 2) (mC (.int 0)))) (mSl (mVar 1) mNoPart (mPart (mVar 2))) (mVar 1))))
def fm_key_of : List PyData → Option PyData := runB 3 mb_key_of
theorem ok_key_of {P : Program} {w : World} {K : PySem.W.Frag} {mg : Str → Option Value} {base : Heap} (T : Txt K mg w)  : FnOk P w K mg base CX0 1 T.f_key_of T.fd_key_of ["table", "row"] (spD K 2 fm_key_of) := by
  have F := defF_fam (P := P) (w := w) (K := K) (mg := mg) (base := base) (qual := "key_of") (sc := defScope s_key_of) (f := T.f_key_of) (j := 0) sc_key_of.nd
  have hS := fun i => (rfl : (defF P w K mg base ["table", "row", "key"] "key_of" (defScope s_key_of) T.f_key_of 0 i).env.scope = defScope s_key_of)
  exact fn_data (M := []) T.F_key_of sc_key_of (by decide)
      (ss_cons
      (s_set F 2 (d_ix (fun i => ix_seqK (F.hK i)) opd_ix (q_of (d_var 0)) (q_of d_int)))
      (ss_one
      (s_ret (d_if (t_cmp (fun _ => op_gt) opd_gt (q_of (d_var 2)) (q_of d_int)) (d_sl F (q_of (d_var 1)) o_none (o_some (d_var 2))) (d_var 1)))))

/-! law_cell_at, level 1 -/
theorem sc_law_cell_at : FnScope ["script", "k"] ["script", "k"] (defScope s_law_cell_at) := ⟨rfl, rfl, rfl, by decide +kernel, rfl, by decide +kernel, by decide +kernel⟩
def mb_law_cell_at : En → Option Fl :=
    (mSeq
    (mIfS (mTst (mBin dLt (mVar 1) (mCB bLen (mCons (mVar 0) mNil)))) (mRet (mBin dIx (mVar 0) (mVar 1))) mNext)
    (mRet (mC (.int 0))))
def fm_law_cell_at : List PyData → Option PyData := runB 2 mb_law_cell_at
theorem ok_law_cell_at {P : Program} {w : World} {K : PySem.W.Frag} {mg : Str → Option Value} {base : Heap} (T : Txt K mg w)  : FnOk P w K mg base CX0 1 T.f_law_cell_at T.fd_law_cell_at ["script", "k"] (spD K 2 fm_law_cell_at) := by
  have F := defF_fam (P := P) (w := w) (K := K) (mg := mg) (base := base) (qual := "_law_cell_at") (sc := defScope s_law_cell_at) (f := T.f_law_cell_at) (j := 0) sc_law_cell_at.nd
  have hS := fun i => (rfl : (defF P w K mg base ["script", "k"] "_law_cell_at" (defScope s_law_cell_at) T.f_law_cell_at 0 i).env.scope = defScope s_law_cell_at)
  exact fn_data (M := []) T.F_law_cell_at sc_law_cell_at (by decide)
      (ss_cons
      (s_if (t_cmp (fun i => op_ltAll (F.hK i) (F.u64 i)) opd_lt (q_of (d_var 1)) (q_of (d_cb (fun i => cr_len (F.hK i)) crd_len (fun _ => T.n_len) (by decide +kernel) (b_cons (q_of (d_var 0)) b_nil)))) (ss_one
      (s_ret (d_ix (fun i => ix_seqK (F.hK i)) opd_ix (q_of (d_var 0)) (q_of (d_var 1))))) ss_nil)
      (ss_one
      (s_ret d_int)))

/-! law_draws, level 1 -/
theorem sc_law_draws : FnScope ["cell", "many", "base", "found", "rest", "stirred", "k"] ["cell", "many", "base"] (defScope s_law_draws) := ⟨rfl, rfl, rfl, by decide +kernel, rfl, by decide +kernel, by decide +kernel⟩
def lb1_law_draws : En → Option Fl :=
    (mSeq
    (mAsg (mBin dMod (mBin dAdd (mBin dAdd (mBin dAdd (mBin dMul (mVar 5) (mVar 5)) (mBin dMul (mC (.int 48271)) (mVar 5))) (mVar 6)) (mC (.int 1))) (mC (.int 2305843009213693951))) (gB 5))
    (mIfS (mAndT (mTst (mBin dGt (mVar 6) (mC (.int 2)))) (mTst (mBin dGt (mVar 4) (mC (.int 0))))) (mSeq
    (mApp 3 (mBin dMod (mVar 4) (mVar 2)))
    (mAsg (mBin dDiv (mVar 4) (mVar 2)) (gB 4))) (mIfS (mTst (mBin dGt (mVar 6) (mC (.int 2)))) (mApp 3 (mBin dMod (mBin dDiv (mVar 5) (mC (.int 4096))) (mVar 2))) mNext)))
def mb_law_draws : En → Option Fl :=
    (mSeq
    (mAsg (mLst mNil) (gB 3))
    (mSeq
    (mAsg (mBin dMul (mVar 0) (mCB bInt (mCons (mBin dGe (mVar 0) (mBin dPow (mC (.int 10)) (mC (.int 18)))) mNil))) (gB 4))
    (mSeq
    (mAsg (mBin dMod (mVar 0) (mC (.int 2305843009213693951))) (gB 5))
    (mSeq
    (mFor (mRng rng1 (mCons (mBin dAdd (mVar 1) (mC (.int 3))) mNil)) (gB 6) lb1_law_draws)
    (mRet (mVar 3))))))
def fm_law_draws : List PyData → Option PyData := runB 7 mb_law_draws
theorem ok_law_draws {P : Program} {w : World} {K : PySem.W.Frag} {mg : Str → Option Value} {base : Heap} (T : Txt K mg w)  : FnOk P w K mg base CX0 1 T.f_law_draws T.fd_law_draws ["cell", "many", "base"] (spD K 3 fm_law_draws) := by
  have F := defF_fam (P := P) (w := w) (K := K) (mg := mg) (base := base) (qual := "_law_draws") (sc := defScope s_law_draws) (f := T.f_law_draws) (j := 0) sc_law_draws.nd
  have hS := fun i => (rfl : (defF P w K mg base ["cell", "many", "base", "found", "rest", "stirred", "k"] "_law_draws" (defScope s_law_draws) T.f_law_draws 0 i).env.scope = defScope s_law_draws)
  exact fn_data (M := [3]) T.F_law_draws sc_law_draws (by decide)
      (ss_cons
      (s_own F 3 f_nil)
      (ss_cons
      (s_set F 4 (d_op (fun _ => op_mulA) opd_mul (q_of (d_var 0)) (q_of (d_ty (fun _ => call_int1) crd_int (fun _ => T.n_int) (by decide +kernel) (b_cons (q_of (d_cmp (fun _ => op_ge) opd_ge (q_of (d_var 0)) (q_of (d_op (fun _ => op_pow) opd_pow (q_of d_int) (q_of d_int))))) b_nil)))))
      (ss_cons
      (s_set F 5 (d_op (fun _ => op_mod) opd_mod (q_of (d_var 0)) (q_of d_int)))
      (ss_cons
      (s_for F (fun _ => PassesOwn.never) (i_range1 (fun _ => T.n_range) (a_cons (d_op (fun i => op_adds (F.hK i)) opd_add (q_of (d_var 1)) (q_of d_int)) a_nil)) (g_name F 6) (ss_cons
      (s_set F 5 (d_op (fun _ => op_mod) opd_mod (q_of (d_op (fun i => op_adds (F.hK i)) opd_add (q_of (d_op (fun i => op_adds (F.hK i)) opd_add (q_of (d_op (fun i => op_adds (F.hK i)) opd_add (q_of (d_op (fun _ => op_mulA) opd_mul (q_of (d_var 5)) (q_of (d_var 5)))) (q_of (d_op (fun _ => op_mulA) opd_mul (q_of d_int) (q_of (d_var 5)))))) (q_of (d_var 6)))) (q_of d_int))) (q_of d_int)))
      (ss_one
      (s_if (w_pt (w_and (t_cmp (fun _ => op_gt) opd_gt (q_of (d_var 6)) (q_of d_int)) (w_and1 (t_cmp (fun _ => op_gt) opd_gt (q_of (d_var 4)) (q_of d_int))))) (ss_cons
      (have hE := (d_op (fun _ => op_mod) opd_mod (q_of (d_var 4)) (q_of (d_var 2))); s_app F 3 hE (by decide) (fun j => ps_expr (pe_bm PySem.F.plainAttrs_list PySem.F.slot_list_append PySem.F.type_list_append mt_append (pv 3) (pa_cons (hE.pe j) pa_nil))))
      (ss_one
      (s_set F 4 (d_op (fun _ => op_fdivW) opd_div (q_of (d_var 4)) (q_of (d_var 2)))))) (ss_one
      (s_if (t_cmp (fun _ => op_gt) opd_gt (q_of (d_var 6)) (q_of d_int)) (ss_one
      (have hE := (d_op (fun _ => op_mod) opd_mod (q_of (d_op (fun _ => op_fdivW) opd_div (q_of (d_var 5)) (q_of d_int))) (q_of (d_var 2))); s_app F 3 hE (by decide) (fun j => ps_expr (pe_bm PySem.F.plainAttrs_list PySem.F.slot_list_append PySem.F.type_list_append mt_append (pv 3) (pa_cons (hE.pe j) pa_nil))))) ss_nil))))))
      (ss_one
      (s_retO 3))))))

/-! law_name, level 1 -/
theorem sc_law_name : FnScope ["some", "taken", "letters", "size", "word", "k", "barred", "ways", "letter", "one"] ["some", "taken"] (defScope s_law_name) := ⟨rfl, rfl, rfl, by decide +kernel, rfl, by decide +kernel, by decide +kernel⟩
def lt1_law_name : En → Option Bool :=
    (mAndT (mTst (mBin (dIn true) (mVar 9) (mVar 1))) (mTst (mBin (dIn true) (mVar 9) (mSplit (mVar 6) (mC (.str " "))))))
def le1_law_name : En → Option PyData :=
    (mVar 9)
def le2_law_name : En → Option PyData :=
    (mBin dAdd (mBin dAdd (mSl (mVar 4) mNoPart (mPart (mC (.int 6)))) (mVar 8)) (mC (.str "z")))
def lb1_law_name : En → Option Fl :=
    (mSeq
    (mAsg (mBin dAdd (mVar 4) (mBin dIx (mVar 2) (mBin dMod (mVar 3) (mC (.int 26))))) (gB 4))
    (mAsg (mBin dDiv (mVar 3) (mC (.int 26))) (gB 3)))
def mb_law_name : En → Option Fl :=
    (mSeq
    (mAsg (mC (.str "abcdefghijklmnopqrstuvwxyz")) (gB 2))
    (mSeq
    (mAsg (mBin dAdd (mBin dMul (mBin dAdd (mBin dMul (mBin dAdd (mBin dMul (mBin dIx (mVar 0) (mC (.int 1))) (mC (.int 1000))) (mBin dIx (mVar 0) (mC (.int 2)))) (mC (.int 1000))) (mBin dIx (mVar 0) (mC (.int 3)))) (mC (.int 1000))) (mBin dIx (mVar 0) (mC (.int 4)))) (gB 3))
    (mSeq
    (mAsg (mC (.str "")) (gB 4))
    (mSeq
    (mFor (mRng rng1 (mCons (mBin dAdd (mC (.int 1)) (mBin dMod (mBin dIx (mVar 0) (mC (.int 0))) (mC (.int 8)))) mNil)) (gB 5) lb1_law_name)
    (mSeq
    (mAsg (mC (.str "rows view where keep named pairs both less count seal and or not mine empty loud yes has")) (gB 6))
    (mSeq
    (mAsg (mBin dAdd (mLst (mCons (mVar 4) mNil)) (mLc [8] (mIt (mVar 2)) (gB 8) mYes le2_law_name)) (gB 7))
    (mRet (mBin dIx (mLc [9] (mIt (mVar 7)) (gB 9) lt1_law_name le1_law_name) (mC (.int 0))))))))))
def fm_law_name : List PyData → Option PyData := runB 10 mb_law_name
theorem ok_law_name {P : Program} {w : World} {K : PySem.W.Frag} {mg : Str → Option Value} {base : Heap} (T : Txt K mg w)  : FnOk P w K mg base CX0 1 T.f_law_name T.fd_law_name ["some", "taken"] (spD K 2 fm_law_name) := by
  have F := defF_fam (P := P) (w := w) (K := K) (mg := mg) (base := base) (qual := "_law_name") (sc := defScope s_law_name) (f := T.f_law_name) (j := 0) sc_law_name.nd
  have hS := fun i => (rfl : (defF P w K mg base ["some", "taken", "letters", "size", "word", "k", "barred", "ways", "letter", "one"] "_law_name" (defScope s_law_name) T.f_law_name 0 i).env.scope = defScope s_law_name)
  exact fn_data (M := []) T.F_law_name sc_law_name (by decide)
      (ss_cons
      (s_set F 2 d_str)
      (ss_cons
      (s_set F 3 (d_op (fun i => op_adds (F.hK i)) opd_add (q_of (d_op (fun _ => op_mulA) opd_mul (q_of (d_op (fun i => op_adds (F.hK i)) opd_add (q_of (d_op (fun _ => op_mulA) opd_mul (q_of (d_op (fun i => op_adds (F.hK i)) opd_add (q_of (d_op (fun _ => op_mulA) opd_mul (q_of (d_ix (fun i => ix_seqK (F.hK i)) opd_ix (q_of (d_var 0)) (q_of d_int))) (q_of d_int))) (q_of (d_ix (fun i => ix_seqK (F.hK i)) opd_ix (q_of (d_var 0)) (q_of d_int))))) (q_of d_int))) (q_of (d_ix (fun i => ix_seqK (F.hK i)) opd_ix (q_of (d_var 0)) (q_of d_int))))) (q_of d_int))) (q_of (d_ix (fun i => ix_seqK (F.hK i)) opd_ix (q_of (d_var 0)) (q_of d_int)))))
      (ss_cons
      (s_set F 4 d_str)
      (ss_cons
      (s_for F (fun _ => PassesOwn.never) (i_range1 (fun _ => T.n_range) (a_cons (d_op (fun i => op_adds (F.hK i)) opd_add (q_of d_int) (q_of (d_op (fun _ => op_mod) opd_mod (q_of (d_ix (fun i => ix_seqK (F.hK i)) opd_ix (q_of (d_var 0)) (q_of d_int))) (q_of d_int)))) a_nil)) (g_name F 5) (ss_cons
      (s_set F 4 (d_op (fun i => op_adds (F.hK i)) opd_add (q_of (d_var 4)) (q_of (d_ix (fun i => ix_seqK (F.hK i)) opd_ix (q_of (d_var 2)) (q_of (d_op (fun _ => op_mod) opd_mod (q_of (d_var 3)) (q_of d_int)))))))
      (ss_one
      (s_set F 3 (d_op (fun _ => op_fdivW) opd_div (q_of (d_var 3)) (q_of d_int))))))
      (ss_cons
      (s_set F 6 d_str)
      (ss_cons
      (s_set F 7 (d_op (fun i => op_adds (F.hK i)) opd_add (q_of (d_lst (a_cons (d_var 4) a_nil))) (q_of (d_lc F [("letter", 8)] (i_weak (i_seq F (d_var 2))) hS (blkOk_by (by decide +kernel)) (g_name (F.blk _) 8) gk_name ts_nil (d_op (fun i => op_adds ((F.blk _).hK i)) opd_add (q_of (d_op (fun i => op_adds ((F.blk _).hK i)) opd_add (q_of (d_sl (F.blk _) (q_of (d_var 4)) o_none (o_some d_int))) (q_of (d_var 8)))) (q_of d_str))))))
      (ss_one
      (s_ret (d_ix (fun i => ix_seqK (F.hK i)) opd_ix (q_of (d_lc F [("one", 9)] (i_weak (i_seq F (d_var 7))) hS (blkOk_by (by decide +kernel)) (g_name (F.blk _) 9) gk_name (ts_one (w_pt (w_and (t_cmp (fun i => op_notIns ((F.blk _).hK i) ((F.blk _).u65 i)) (opd_in true) (q_of (d_var 9)) (q_of (d_var 1))) (w_and1 (t_cmp (fun i => op_notIns ((F.blk _).hK i) ((F.blk _).u65 i)) (opd_in true) (q_of (d_var 9)) (q_of (d_split (d_var 6) d_str))))))) (d_var 9))) (q_of d_int))))))))))

/-! law_possible, level 1 -/
theorem sc_law_possible : FnScope ["table", "found", "column", "wide", "row", "value"] ["table"] (defScope s_law_possible) := ⟨rfl, rfl, rfl, by decide +kernel, rfl, by decide +kernel, by decide +kernel⟩
def le1_law_possible : En → Option PyData :=
    (mBin dAdd (mVar 4) (mTup (mCons (mVar 5) mNil)))
def lb1_law_possible : En → Option Fl :=
    (mAsg (mBin dAdd (mVar 3) (mLc [5] (mRng rng2 (mCons (mBin dSub (mC (.int 0)) (mCB bInt (mCons (mBin dIx (mVar 2) (mC (.int 2))) mNil))) (mCons (mBin dIx (mVar 2) (mC (.int 1))) mNil))) (gB 5) mYes le1_law_possible)) (gB 3))
def lb2_law_possible : En → Option Fl :=
    (mSeq
    (mAsg (mLst mNil) (gB 3))
    (mSeq
    (mFor (mIt (mVar 1)) (gB 4) lb1_law_possible)
    (mAsg (mVar 3) (gB 1))))
def mb_law_possible : En → Option Fl :=
    (mSeq
    (mAsg (mLst (mCons (mTup mNil) mNil)) (gB 1))
    (mSeq
    (mFor (mIt (mBin dIx (mVar 0) (mC (.int 2)))) (gB 2) lb2_law_possible)
    (mRet (mVar 1))))
def fm_law_possible : List PyData → Option PyData := runB 6 mb_law_possible
theorem ok_law_possible {P : Program} {w : World} {K : PySem.W.Frag} {mg : Str → Option Value} {base : Heap} (T : Txt K mg w)  : FnOk P w K mg base CX0 1 T.f_law_possible T.fd_law_possible ["table"] (spD K 1 fm_law_possible) := by
  have F := defF_fam (P := P) (w := w) (K := K) (mg := mg) (base := base) (qual := "_law_possible") (sc := defScope s_law_possible) (f := T.f_law_possible) (j := 0) sc_law_possible.nd
  have hS := fun i => (rfl : (defF P w K mg base ["table", "found", "column", "wide", "row", "value"] "_law_possible" (defScope s_law_possible) T.f_law_possible 0 i).env.scope = defScope s_law_possible)
  exact fn_data (M := []) T.F_law_possible sc_law_possible (by decide)
      (ss_cons
      (s_set F 1 (d_lst (a_cons (d_tup a_nil) a_nil)))
      (ss_cons
      (s_for F (fun _ => PassesOwn.never) (i_seq F (d_ix (fun i => ix_seqK (F.hK i)) opd_ix (q_of (d_var 0)) (q_of d_int))) (g_name F 2) (ss_cons
      (s_set F 3 (d_lst a_nil))
      (ss_cons
      (s_for F (fun _ => PassesOwn.never) (i_seq F (d_var 1)) (g_name F 4) (ss_one
      (s_set F 3 (d_op (fun i => op_adds (F.hK i)) opd_add (q_of (d_var 3)) (q_of (d_lc F [("value", 5)] (i_weak (i_range2 (fun _ => T.n_range) (a_cons (d_op (fun _ => op_sub) opd_sub (q_of d_int) (q_of (d_ty (fun _ => call_int1) crd_int (fun _ => T.n_int) (by decide +kernel) (b_cons (q_of (d_ix (fun i => ix_seqK (F.hK i)) opd_ix (q_of (d_var 2)) (q_of d_int))) b_nil)))) (a_cons (d_ix (fun i => ix_seqK (F.hK i)) opd_ix (q_of (d_var 2)) (q_of d_int)) a_nil)))) hS (blkOk_by (by decide +kernel)) (g_name (F.blk _) 5) gk_name ts_nil (d_op (fun i => op_adds ((F.blk _).hK i)) opd_add (q_of (d_var 4)) (q_of (d_tup (a_cons (d_var 5) a_nil))))))))))
      (ss_one
      (s_set F 1 (d_var 3))))))
      (ss_one
      (s_ret (d_var 1)))))

/-! law_kin, level 1 -/
theorem sc_law_kin : FnScope ["e", "kin", "name", "there"] ["e"] (defScope s_law_kin) := ⟨rfl, rfl, rfl, by decide +kernel, rfl, by decide +kernel, by decide +kernel⟩
def kinL_TooMany : List PyData := [.tuple [.str "TooMany", .bool true], .tuple [.str "NoAsk", .bool false], .tuple [.str "NoRight", .bool false], .tuple [.str "NoRow", .bool false], .tuple [.str "NotLet", .bool false], .tuple [.str "Taken", .bool false], .tuple [.str "Full", .bool false], .tuple [.str "NoCondition", .bool false], .tuple [.str "NoGround", .bool false], .tuple [.str "NoRule", .bool false], .tuple [.str "Twice", .bool false], .tuple [.str "NotThere", .bool false], .tuple [.str "NoView", .bool false], .tuple [.str "InUse", .bool false], .tuple [.str "NoTable", .bool false], .tuple [.str "NoUser", .bool false], .tuple [.str "NoneOpen", .bool false], .tuple [.str "TooDeep", .bool false], .tuple [.str "NoDeeds", .bool false], .tuple [.str "NoText", .bool false], .tuple [.str "NoLine", .bool false], .tuple [.str "ValueError", .bool true]]
def kinR_TooMany : PyData := .list [.str "TooMany", .str "ValueError"]
theorem kin_TooMany {P : Program} {w : World} {K : PySem.W.Frag} {mg : Str → Option Value} {base : Heap} (T : Txt K mg w) : KinH P w K mg base 1 T.f_law_kin T.fd_law_kin T.C_TooMany kinR_TooMany :=
  fn_kinH (k := 0) (L := kinL_TooMany) T.F_law_kin sc_law_kin rfl rfl (fun cdv A outer s H a oe hz hf => ⟨_, (mk_cons rfl T.er_TooMany.ec hz hf (List.mem_cons_self) (pe_glob (v := .ref T.C_TooMany) rfl T.mgc_TooMany rfl) (u := .ref T.C_TooMany) (fun _ h => h) (kit_by T.ec_TooMany T.er_TooMany.sc T.sub_TooMany_TooMany) T.n_isinstance
      (mk_cons rfl T.er_TooMany.ec hz hf (List.mem_cons_self) (pe_glob (v := .ref T.C_NoAsk) rfl T.mgc_NoAsk rfl) (u := .ref T.C_NoAsk) (fun _ h => h) (kit_by T.ec_NoAsk T.er_TooMany.sc T.sub_TooMany_NoAsk) T.n_isinstance
      (mk_cons rfl T.er_TooMany.ec hz hf (List.mem_cons_self) (pe_glob (v := .ref T.C_NoRight) rfl T.mgc_NoRight rfl) (u := .ref T.C_NoRight) (fun _ h => h) (kit_by T.ec_NoRight T.er_TooMany.sc T.sub_TooMany_NoRight) T.n_isinstance
      (mk_cons rfl T.er_TooMany.ec hz hf (List.mem_cons_self) (pe_glob (v := .ref T.C_NoRow) rfl T.mgc_NoRow rfl) (u := .ref T.C_NoRow) (fun _ h => h) (kit_by T.ec_NoRow T.er_TooMany.sc T.sub_TooMany_NoRow) T.n_isinstance
      (mk_cons rfl T.er_TooMany.ec hz hf (List.mem_cons_self) (pe_glob (v := .ref T.C_NotLet) rfl T.mgc_NotLet rfl) (u := .ref T.C_NotLet) (fun _ h => h) (kit_by T.ec_NotLet T.er_TooMany.sc T.sub_TooMany_NotLet) T.n_isinstance
      (mk_cons rfl T.er_TooMany.ec hz hf (List.mem_cons_self) (pe_glob (v := .ref T.C_Taken) rfl T.mgc_Taken rfl) (u := .ref T.C_Taken) (fun _ h => h) (kit_by T.ec_Taken T.er_TooMany.sc T.sub_TooMany_Taken) T.n_isinstance
      (mk_cons rfl T.er_TooMany.ec hz hf (List.mem_cons_self) (pe_glob (v := .ref T.C_Full) rfl T.mgc_Full rfl) (u := .ref T.C_Full) (fun _ h => h) (kit_by T.ec_Full T.er_TooMany.sc T.sub_TooMany_Full) T.n_isinstance
      (mk_cons rfl T.er_TooMany.ec hz hf (List.mem_cons_self) (pe_glob (v := .ref T.C_NoCondition) rfl T.mgc_NoCondition rfl) (u := .ref T.C_NoCondition) (fun _ h => h) (kit_by T.ec_NoCondition T.er_TooMany.sc T.sub_TooMany_NoCondition) T.n_isinstance
      (mk_cons rfl T.er_TooMany.ec hz hf (List.mem_cons_self) (pe_glob (v := .ref T.C_NoGround) rfl T.mgc_NoGround rfl) (u := .ref T.C_NoGround) (fun _ h => h) (kit_by T.ec_NoGround T.er_TooMany.sc T.sub_TooMany_NoGround) T.n_isinstance
      (mk_cons rfl T.er_TooMany.ec hz hf (List.mem_cons_self) (pe_glob (v := .ref T.C_NoRule) rfl T.mgc_NoRule rfl) (u := .ref T.C_NoRule) (fun _ h => h) (kit_by T.ec_NoRule T.er_TooMany.sc T.sub_TooMany_NoRule) T.n_isinstance
      (mk_cons rfl T.er_TooMany.ec hz hf (List.mem_cons_self) (pe_glob (v := .ref T.C_Twice) rfl T.mgc_Twice rfl) (u := .ref T.C_Twice) (fun _ h => h) (kit_by T.ec_Twice T.er_TooMany.sc T.sub_TooMany_Twice) T.n_isinstance
      (mk_cons rfl T.er_TooMany.ec hz hf (List.mem_cons_self) (pe_glob (v := .ref T.C_NotThere) rfl T.mgc_NotThere rfl) (u := .ref T.C_NotThere) (fun _ h => h) (kit_by T.ec_NotThere T.er_TooMany.sc T.sub_TooMany_NotThere) T.n_isinstance
      (mk_cons rfl T.er_TooMany.ec hz hf (List.mem_cons_self) (pe_glob (v := .ref T.C_NoView) rfl T.mgc_NoView rfl) (u := .ref T.C_NoView) (fun _ h => h) (kit_by T.ec_NoView T.er_TooMany.sc T.sub_TooMany_NoView) T.n_isinstance
      (mk_cons rfl T.er_TooMany.ec hz hf (List.mem_cons_self) (pe_glob (v := .ref T.C_InUse) rfl T.mgc_InUse rfl) (u := .ref T.C_InUse) (fun _ h => h) (kit_by T.ec_InUse T.er_TooMany.sc T.sub_TooMany_InUse) T.n_isinstance
      (mk_cons rfl T.er_TooMany.ec hz hf (List.mem_cons_self) (pe_glob (v := .ref T.C_NoTable) rfl T.mgc_NoTable rfl) (u := .ref T.C_NoTable) (fun _ h => h) (kit_by T.ec_NoTable T.er_TooMany.sc T.sub_TooMany_NoTable) T.n_isinstance
      (mk_cons rfl T.er_TooMany.ec hz hf (List.mem_cons_self) (pe_glob (v := .ref T.C_NoUser) rfl T.mgc_NoUser rfl) (u := .ref T.C_NoUser) (fun _ h => h) (kit_by T.ec_NoUser T.er_TooMany.sc T.sub_TooMany_NoUser) T.n_isinstance
      (mk_cons rfl T.er_TooMany.ec hz hf (List.mem_cons_self) (pe_glob (v := .ref T.C_NoneOpen) rfl T.mgc_NoneOpen rfl) (u := .ref T.C_NoneOpen) (fun _ h => h) (kit_by T.ec_NoneOpen T.er_TooMany.sc T.sub_TooMany_NoneOpen) T.n_isinstance
      (mk_cons rfl T.er_TooMany.ec hz hf (List.mem_cons_self) (pe_glob (v := .ref T.C_TooDeep) rfl T.mgc_TooDeep rfl) (u := .ref T.C_TooDeep) (fun _ h => h) (kit_by T.ec_TooDeep T.er_TooMany.sc T.sub_TooMany_TooDeep) T.n_isinstance
      (mk_cons rfl T.er_TooMany.ec hz hf (List.mem_cons_self) (pe_glob (v := .ref T.C_NoDeeds) rfl T.mgc_NoDeeds rfl) (u := .ref T.C_NoDeeds) (fun _ h => h) (kit_by T.ec_NoDeeds T.er_TooMany.sc T.sub_TooMany_NoDeeds) T.n_isinstance
      (mk_cons rfl T.er_TooMany.ec hz hf (List.mem_cons_self) (pe_glob (v := .ref T.C_NoText) rfl T.mgc_NoText rfl) (u := .ref T.C_NoText) (fun _ h => h) (kit_by T.ec_NoText T.er_TooMany.sc T.sub_TooMany_NoText) T.n_isinstance
      (mk_cons rfl T.er_TooMany.ec hz hf (List.mem_cons_self) (pe_glob (v := .ref T.C_NoLine) rfl T.mgc_NoLine rfl) (u := .ref T.C_NoLine) (fun _ h => h) (kit_by T.ec_NoLine T.er_TooMany.sc T.sub_TooMany_NoLine) T.n_isinstance
      (mk_cons rfl T.er_TooMany.ec hz hf (List.mem_cons_self) (pe_bltn (v := .ty "ValueError") (u := .type "ValueError") rfl T.n_ValueError (by decide +kernel) rfl) (fun _ h => h) (kit_ty (by decide +kernel) T.sub_TooMany_ValueError) T.n_isinstance
      mk_nil))))))))))))))))))))))⟩) (Nat.le_trans (show kinL_TooMany.length ≤ 100 by decide) (by decide)) (blkOk_by (by decide +kernel)) rfl (Or.inl rfl) rfl (fun _ _ _ _ _ _ => rfl) (fun _ _ _ _ _ _ => pv 1)
    (fun cdv A outer s H p s' H' C cl fp => ⟨pgs_cons (pg_name (i := 2) sc_law_kin.nd rfl (Or.inl rfl) (.inr rfl)) (pgs_cons (pg_name (i := 3) sc_law_kin.nd rfl (Or.inl rfl) (.inr rfl)) pgs_nil), rfl, rfl, pv 3, pv 2⟩)
def kinD : Str → Option PyData := fun c => if c = "TooMany" then some kinR_TooMany else none
theorem kin_ok_VeilError {P : Program} {w : World} {K : PySem.W.Frag} {mg : Str → Option Value} {base : Heap} (T : Txt K mg w) : ∀ c d, kinD c = some d → ∃ D, mg c = some (.ref D) ∧ PySem.W.exmOne K (.ref D) (.ref T.C_VeilError) = some true ∧ KinH P w K mg base 1 T.f_law_kin T.fd_law_kin D d := fun c d h => by
  unfold kinD at h
  by_cases z_TooMany : c = "TooMany"
  · rw [if_pos z_TooMany] at h
    cases h
    subst z_TooMany
    exact ⟨_, T.mgc_TooMany, exm_by T.ec_VeilError T.bv_VeilError T.sub_TooMany_VeilError, kin_TooMany T⟩
  rw [if_neg z_TooMany] at h
  cases h

/-! possible_rows, level 2 -/
theorem sc_possible_rows : FnScope ["table", "rows", "column", "row", "value"] ["table"] (defScope s_possible_rows) := ⟨rfl, rfl, rfl, by decide +kernel, rfl, by decide +kernel, by decide +kernel⟩
def le1_possible_rows : En → Option PyData :=
    (mTup (mStar (mVar 3) (mCons (mVar 4) mNil)))
def lb1_possible_rows : En → Option Fl :=
    (mAsg (mLc2 [3, 4] (mIt (mVar 1)) 3 mYes [4] (mIt (mCB fm_column_values (mCons (mVar 2) mNil))) (gB 4) mYes le1_possible_rows) (gB 1))
def mb_possible_rows : En → Option Fl :=
    (mSeq
    (mAsg (mLst (mCons (mTup mNil) mNil)) (gB 1))
    (mSeq
    (mFor (mIt (mBin dIx (mVar 0) (mC (.int 2)))) (gB 2) lb1_possible_rows)
    (mRet (mVar 1))))
def fm_possible_rows : List PyData → Option PyData := runB 5 mb_possible_rows
theorem ok_possible_rows {P : Program} {w : World} {K : PySem.W.Frag} {mg : Str → Option Value} {base : Heap} (T : Txt K mg w) (G_column_values : FnOk P w K mg base CX0 1 T.f_column_values T.fd_column_values ["column"] (spD K 1 fm_column_values)) : FnOk P w K mg base CX0 2 T.f_possible_rows T.fd_possible_rows ["table"] (spD K 1 fm_possible_rows) := by
  have F := defF_fam (P := P) (w := w) (K := K) (mg := mg) (base := base) (qual := "possible_rows") (sc := defScope s_possible_rows) (f := T.f_possible_rows) (j := 1) sc_possible_rows.nd
  have hS := fun i => (rfl : (defF P w K mg base ["table", "rows", "column", "row", "value"] "possible_rows" (defScope s_possible_rows) T.f_possible_rows 1 i).env.scope = defScope s_possible_rows)
  exact fn_data (M := []) T.F_possible_rows sc_possible_rows (by decide)
      (ss_cons
      (s_set F 1 (d_lst (a_cons (d_tup a_nil) a_nil)))
      (ss_cons
      (s_for F (fun _ => PassesOwn.never) (i_seq F (d_ix (fun i => ix_seqK (F.hK i)) opd_ix (q_of (d_var 0)) (q_of d_int))) (g_name F 2) (ss_one
      (s_setLc2 F 1 [("row", 3), ("value", 4)] [4] 3 (i_weak (i_seq F (d_var 1))) hS (blkOk_by (by decide +kernel)) (g_name (F.blk _) 3) ts_nil (i_seq (F.blk _) (d_call (fun _ => G_column_values) (fun i => ((F.blk _).room i).mono (by omega)) (fun _ => T.g_column_values) (fun _ => T.k_column_values) (fun _ => T.b_column_values) (a_cons (d_var 2) a_nil) (len_cons len_nil))) (g_name (F.blk _) 4) gk_name ts_nil (d_tup (a_star (F.blk _) (d_var 3) (a_cons (d_var 4) a_nil))))))
      (ss_one
      (s_ret (d_var 1)))))

/-! count_rows, level 2 -/
theorem sc_count_rows : FnScope ["columns", "many", "column"] ["columns"] (defScope s_count_rows) := ⟨rfl, rfl, rfl, by decide +kernel, rfl, by decide +kernel, by decide +kernel⟩
def lb1_count_rows : En → Option Fl :=
    (mAug 1 dMul (mCB bLen (mCons (mCB fm_column_values (mCons (mVar 2) mNil)) mNil)))
def mb_count_rows : En → Option Fl :=
    (mSeq
    (mAsg (mC (.int 1)) (gB 1))
    (mSeq
    (mFor (mIt (mVar 0)) (gB 2) lb1_count_rows)
    (mRet (mVar 1))))
def fm_count_rows : List PyData → Option PyData := runB 3 mb_count_rows
theorem ok_count_rows {P : Program} {w : World} {K : PySem.W.Frag} {mg : Str → Option Value} {base : Heap} (T : Txt K mg w) (G_column_values : FnOk P w K mg base CX0 1 T.f_column_values T.fd_column_values ["column"] (spD K 1 fm_column_values)) : FnOk P w K mg base CX0 2 T.f_count_rows T.fd_count_rows ["columns"] (spD K 1 fm_count_rows) := by
  have F := defF_fam (P := P) (w := w) (K := K) (mg := mg) (base := base) (qual := "count_rows") (sc := defScope s_count_rows) (f := T.f_count_rows) (j := 1) sc_count_rows.nd
  have hS := fun i => (rfl : (defF P w K mg base ["columns", "many", "column"] "count_rows" (defScope s_count_rows) T.f_count_rows 1 i).env.scope = defScope s_count_rows)
  exact fn_data (M := []) T.F_count_rows sc_count_rows (by decide)
      (ss_cons
      (s_set F 1 d_int)
      (ss_cons
      (s_for F (fun _ => PassesOwn.never) (i_seq F (d_var 0)) (g_name F 2) (ss_one
      (s_aug F 1 (fun _ => ip_mulA) opd_mul (d_cb (fun i => cr_len (F.hK i)) crd_len (fun _ => T.n_len) (by decide +kernel) (b_cons (q_of (d_call (fun _ => G_column_values) (fun i => (F.room i).mono (by omega)) (fun _ => T.g_column_values) (fun _ => T.k_column_values) (fun _ => T.b_column_values) (a_cons (d_var 2) a_nil) (len_cons len_nil))) b_nil)))))
      (ss_one
      (s_ret (d_var 1)))))

/-! may_follow, level 2 -/
theorem sc_may_follow : FnScope ["table", "rows", "row"] ["table", "rows", "row"] (defScope s_may_follow) := ⟨rfl, rfl, rfl, by decide +kernel, rfl, by decide +kernel, by decide +kernel⟩
def mb_may_follow : En → Option Fl :=
    (mSeq
    (mIfS (mNotT (mTru (mVar 1))) (mRet (mC (.bool true))) mNext)
    (mRet (mAnd (mBin dLt (mCB bLen (mCons (mVar 1) mNil)) (mC c_MOST_IN_TABLE)) (mBin dNe (mCB fm_key_of (mCons (mVar 0) (mCons (mBin dIx (mVar 1) (mUn dNeg (mC (.int 1)))) mNil))) (mCB fm_key_of (mCons (mVar 0) (mCons (mVar 2) mNil)))))))
def fm_may_follow : List PyData → Option PyData := runB 3 mb_may_follow
theorem ok_may_follow {P : Program} {w : World} {K : PySem.W.Frag} {mg : Str → Option Value} {base : Heap} (T : Txt K mg w) (G_key_of : FnOk P w K mg base CX0 1 T.f_key_of T.fd_key_of ["table", "row"] (spD K 2 fm_key_of)) : FnOk P w K mg base CX0 2 T.f_may_follow T.fd_may_follow ["table", "rows", "row"] (spD K 3 fm_may_follow) := by
  have F := defF_fam (P := P) (w := w) (K := K) (mg := mg) (base := base) (qual := "may_follow") (sc := defScope s_may_follow) (f := T.f_may_follow) (j := 1) sc_may_follow.nd
  have hS := fun i => (rfl : (defF P w K mg base ["table", "rows", "row"] "may_follow" (defScope s_may_follow) T.f_may_follow 1 i).env.scope = defScope s_may_follow)
  exact fn_data (M := []) T.F_may_follow sc_may_follow (by decide)
      (ss_cons
      (s_if (t_not (t_tru F (q_of (d_var 1)))) (ss_one
      (s_ret d_bl)) ss_nil)
      (ss_one
      (s_ret (d_and F (d_cmp (fun i => op_ltAll (F.hK i) (F.u64 i)) opd_lt (q_of (d_cb (fun i => cr_len (F.hK i)) crd_len (fun _ => T.n_len) (by decide +kernel) (b_cons (q_of (d_var 1)) b_nil))) (q_of (d_glob T.dp_MOST_IN_TABLE (fun _ => pe_glob rfl T.mg_MOST_IN_TABLE T.rl_MOST_IN_TABLE)))) (d_one (d_cmp (fun i => op_neK (F.hK i) (F.u64 i)) opd_ne (q_of (d_call (fun _ => G_key_of) (fun i => (F.room i).mono (by omega)) (fun _ => T.g_key_of) (fun _ => T.k_key_of) (fun _ => T.b_key_of) (a_cons (d_var 0) (a_cons (d_ix (fun i => ix_seqK (F.hK i)) opd_ix (q_of (d_var 1)) (q_of (d_neg d_int))) a_nil)) (len_cons (len_cons len_nil)))) (q_of (d_call (fun _ => G_key_of) (fun i => (F.room i).mono (by omega)) (fun _ => T.g_key_of) (fun _ => T.k_key_of) (fun _ => T.b_key_of) (a_cons (d_var 0) (a_cons (d_var 2) a_nil)) (len_cons (len_cons len_nil))))))))))

/-! law_columns, level 2 -/
theorem sc_law_columns : FnScope ["picks", "many", "top", "found", "room", "k", "some", "values", "empty", "one"] ["picks", "many", "top"] (defScope s_law_columns) := ⟨rfl, rfl, rfl, by decide +kernel, rfl, by decide +kernel, by decide +kernel⟩
def le1_law_columns : En → Option PyData :=
    (mBin dIx (mVar 9) (mC (.int 0)))
def lb1_law_columns : En → Option Fl :=
    (mSeq
    (mAsg (mSl (mVar 0) (mPart (mBin dMul (mC (.int 7)) (mVar 5))) (mPart (mBin dAdd (mBin dMul (mC (.int 7)) (mVar 5)) (mC (.int 7))))) (gB 6))
    (mSeq
    (mAsg (mBin dAdd (mC (.int 1)) (mBin dMod (mBin dIx (mVar 6) (mC (.int 5))) (mCB bMin2 (mCons (mC (.int 10)) (mCons (mBin dDiv (mVar 2) (mVar 4)) mNil))))) (gB 7))
    (mSeq
    (mAsg (mOr (mBin dEq (mVar 7) (mC (.int 10))) (mAnd (mBin dGt (mVar 7) (mC (.int 1))) (mBin dEq (mBin dMod (mBin dIx (mVar 6) (mC (.int 6))) (mC (.int 3))) (mC (.int 0))))) (gB 8))
    (mSeq
    (mApp 3 (mTup (mCons (mCB fm_law_name (mCons (mVar 6) (mCons (mLc [9] (mIt (mVar 3)) (gB 9) mYes le1_law_columns) mNil))) (mCons (mBin dSub (mVar 7) (mCB bInt (mCons (mVar 8) mNil))) (mCons (mVar 8) mNil)))))
    (mAsg (mBin dMul (mVar 4) (mVar 7)) (gB 4))))))
def mb_law_columns : En → Option Fl :=
    (mSeq
    (mAsg (mLst mNil) (gB 3))
    (mSeq
    (mAsg (mC (.int 1)) (gB 4))
    (mSeq
    (mFor (mRng rng1 (mCons (mVar 1) mNil)) (gB 5) lb1_law_columns)
    (mRet (mTup (mCons (mCB bTuple (mCons (mVar 3) mNil)) (mCons (mVar 4) mNil)))))))
def fm_law_columns : List PyData → Option PyData := runB 10 mb_law_columns
theorem ok_law_columns {P : Program} {w : World} {K : PySem.W.Frag} {mg : Str → Option Value} {base : Heap} (T : Txt K mg w) (G_law_name : FnOk P w K mg base CX0 1 T.f_law_name T.fd_law_name ["some", "taken"] (spD K 2 fm_law_name)) : FnOk P w K mg base CX0 2 T.f_law_columns T.fd_law_columns ["picks", "many", "top"] (spD K 3 fm_law_columns) := by
  have F := defF_fam (P := P) (w := w) (K := K) (mg := mg) (base := base) (qual := "_law_columns") (sc := defScope s_law_columns) (f := T.f_law_columns) (j := 1) sc_law_columns.nd
  have hS := fun i => (rfl : (defF P w K mg base ["picks", "many", "top", "found", "room", "k", "some", "values", "empty", "one"] "_law_columns" (defScope s_law_columns) T.f_law_columns 1 i).env.scope = defScope s_law_columns)
  exact fn_data (M := [3]) T.F_law_columns sc_law_columns (by decide)
      (ss_cons
      (s_own F 3 f_nil)
      (ss_cons
      (s_set F 4 d_int)
      (ss_cons
      (s_for F (fun _ => PassesOwn.never) (i_range1 (fun _ => T.n_range) (a_cons (d_var 1) a_nil)) (g_name F 5) (ss_cons
      (s_set F 6 (d_sl F (q_of (d_var 0)) (o_some (d_op (fun _ => op_mulA) opd_mul (q_of d_int) (q_of (d_var 5)))) (o_some (d_op (fun i => op_adds (F.hK i)) opd_add (q_of (d_op (fun _ => op_mulA) opd_mul (q_of d_int) (q_of (d_var 5)))) (q_of d_int)))))
      (ss_cons
      (s_set F 7 (d_op (fun i => op_adds (F.hK i)) opd_add (q_of d_int) (q_of (d_op (fun _ => op_mod) opd_mod (q_of (d_ix (fun i => ix_seqK (F.hK i)) opd_ix (q_of (d_var 6)) (q_of d_int))) (q_of (d_cb (fun i => call_min2 (F.calm i)) crd_min2 (fun _ => T.n_min) (by decide +kernel) (b_cons (q_of d_int) (b_cons (q_of (d_op (fun _ => op_fdivW) opd_div (q_of (d_var 2)) (q_of (d_var 4)))) b_nil))))))))
      (ss_cons
      (s_set F 8 (d_or F (d_cmp (fun i => op_eqK (F.hK i) (F.u64 i)) opd_eq (q_of (d_var 7)) (q_of d_int)) (d_one (d_and F (d_cmp (fun _ => op_gt) opd_gt (q_of (d_var 7)) (q_of d_int)) (d_one (d_cmp (fun i => op_eqK (F.hK i) (F.u64 i)) opd_eq (q_of (d_op (fun _ => op_mod) opd_mod (q_of (d_ix (fun i => ix_seqK (F.hK i)) opd_ix (q_of (d_var 6)) (q_of d_int))) (q_of d_int))) (q_of d_int)))))))
      (ss_cons
      (have hE := (d_tup (a_cons (d_call (fun _ => G_law_name) (fun i => (F.room i).mono (by omega)) (fun _ => T.g_law_name) (fun _ => T.k_law_name) (fun _ => T.b_law_name) (a_cons (d_var 6) (a_cons (d_lc F [("one", 9)] (i_own F (q_var 3)) hS (blkOk_by (by decide +kernel)) (g_name (F.blk _) 9) gk_name ts_nil (d_ix (fun i => ix_seqK ((F.blk _).hK i)) opd_ix (q_of (d_var 9)) (q_of d_int))) a_nil)) (len_cons (len_cons len_nil))) (a_cons (d_op (fun _ => op_sub) opd_sub (q_of (d_var 7)) (q_of (d_ty (fun _ => call_int1) crd_int (fun _ => T.n_int) (by decide +kernel) (b_cons (q_of (d_var 8)) b_nil)))) (a_cons (d_var 8) a_nil)))); s_app F 3 hE (by decide) (fun j => ps_expr (pe_bm PySem.F.plainAttrs_list PySem.F.slot_list_append PySem.F.type_list_append mt_append (pv 3) (pa_cons (hE.pe j) pa_nil))))
      (ss_one
      (s_set F 4 (d_op (fun _ => op_mulA) opd_mul (q_of (d_var 4)) (q_of (d_var 7))))))))))
      (ss_one
      (s_ret (d_tup (a_cons (d_ty (fun i => cr_tuple (F.hK i)) crd_tuple (fun _ => T.n_tuple) (by decide +kernel) (b_cons (q_var 3) b_nil)) (a_cons (d_var 4) a_nil))))))))

/-! law_worlds, level 2 -/
theorem sc_law_worlds : FnScope ["ground", "found", "table", "ways", "row", "wide", "world", "one", "other"] ["ground"] (defScope s_law_worlds) := ⟨rfl, rfl, rfl, by decide +kernel, rfl, by decide +kernel, by decide +kernel⟩
def le1_law_worlds : En → Option PyData :=
    (mBin dAdd (mVar 6) (mTup (mCons (mVar 7) mNil)))
def lb1_law_worlds : En → Option Fl :=
    (mAsg (mBin dAdd (mVar 5) (mLc [7] (mIt (mCB bSortE (mCons (mVar 3) mNil))) (gB 7) mYes le1_law_worlds)) (gB 5))
def le2_law_worlds : En → Option PyData :=
    (mOr (mSl (mVar 8) mNoPart (mPart (mBin dIx (mVar 2) (mC (.int 1))))) (mVar 8))
def lb2_law_worlds : En → Option Fl :=
    (mIfS (mTst (mBin (dIn true) (mOr (mSl (mVar 4) mNoPart (mPart (mBin dIx (mVar 2) (mC (.int 1))))) (mVar 4)) (mLc [8] (mIt (mVar 7)) (gB 8) mYes le2_law_worlds))) (mApp 3 (mBin dAdd (mVar 7) (mTup (mCons (mVar 4) mNil)))) mNext)
def lb3_law_worlds : En → Option Fl :=
    (mFor (mIt (mCB bList (mCons (mVar 3) mNil))) (gB 7) lb2_law_worlds)
def lb4_law_worlds : En → Option Fl :=
    (mSeq
    (mAsg (mLst (mCons (mTup mNil) mNil)) (gB 3))
    (mSeq
    (mFor (mIt (mCB fm_law_possible (mCons (mVar 2) mNil))) (gB 4) lb3_law_worlds)
    (mSeq
    (mAsg (mLst mNil) (gB 5))
    (mSeq
    (mFor (mIt (mVar 1)) (gB 6) lb1_law_worlds)
    (mAsg (mVar 5) (gB 1))))))
def mb_law_worlds : En → Option Fl :=
    (mSeq
    (mAsg (mLst (mCons (mTup mNil) mNil)) (gB 1))
    (mSeq
    (mFor (mIt (mVar 0)) (gB 2) lb4_law_worlds)
    (mRet (mVar 1))))
def fm_law_worlds : List PyData → Option PyData := runB 9 mb_law_worlds
theorem ok_law_worlds {P : Program} {w : World} {K : PySem.W.Frag} {mg : Str → Option Value} {base : Heap} (T : Txt K mg w) (G_law_possible : FnOk P w K mg base CX0 1 T.f_law_possible T.fd_law_possible ["table"] (spD K 1 fm_law_possible)) : FnOk P w K mg base CX0 2 T.f_law_worlds T.fd_law_worlds ["ground"] (spD K 1 fm_law_worlds) := by
  have F := defF_fam (P := P) (w := w) (K := K) (mg := mg) (base := base) (qual := "_law_worlds") (sc := defScope s_law_worlds) (f := T.f_law_worlds) (j := 1) sc_law_worlds.nd
  have hS := fun i => (rfl : (defF P w K mg base ["ground", "found", "table", "ways", "row", "wide", "world", "one", "other"] "_law_worlds" (defScope s_law_worlds) T.f_law_worlds 1 i).env.scope = defScope s_law_worlds)
  exact fn_data (M := [3]) T.F_law_worlds sc_law_worlds (by decide)
      (ss_cons
      (s_set F 1 (d_lst (a_cons (d_tup a_nil) a_nil)))
      (ss_cons
      (s_for F (fun _ => PassesOwn.never) (i_seq F (d_var 0)) (g_name F 2) (ss_cons
      (s_own F 3 (f_lst (a_cons (d_tup a_nil) a_nil)))
      (ss_cons
      (s_for F (fun _ => PassesOwn.never) (i_seq F (d_call (fun _ => G_law_possible) (fun i => (F.room i).mono (by omega)) (fun _ => T.g_law_possible) (fun _ => T.k_law_possible) (fun _ => T.b_law_possible) (a_cons (d_var 2) a_nil) (len_cons len_nil))) (g_name F 4) (ss_one
      (s_for F (fun _ => PassesOwn.never) (i_seq F (d_ty (fun i => cr_list (F.hK i)) crd_list (fun _ => T.n_list) (by decide +kernel) (b_cons (q_var 3) b_nil))) (g_name F 7) (ss_one
      (s_if (t_cmp (fun i => op_notIns (F.hK i) (F.u65 i)) (opd_in true) (q_of (d_or F (d_sl F (q_of (d_var 4)) o_none (o_some (d_ix (fun i => ix_seqK (F.hK i)) opd_ix (q_of (d_var 2)) (q_of d_int)))) (d_one (d_var 4)))) (q_of (d_lc F [("other", 8)] (i_weak (i_seq F (d_var 7))) hS (blkOk_by (by decide +kernel)) (g_name (F.blk _) 8) gk_name ts_nil (d_or (F.blk _) (d_sl (F.blk _) (q_of (d_var 8)) o_none (o_some (d_ix (fun i => ix_seqK ((F.blk _).hK i)) opd_ix (q_of (d_var 2)) (q_of d_int)))) (d_one (d_var 8)))))) (ss_one
      (have hE := (d_op (fun i => op_adds (F.hK i)) opd_add (q_of (d_var 7)) (q_of (d_tup (a_cons (d_var 4) a_nil)))); s_app F 3 hE (by decide) (fun j => ps_expr (pe_bm PySem.F.plainAttrs_list PySem.F.slot_list_append PySem.F.type_list_append mt_append (pv 3) (pa_cons (hE.pe j) pa_nil))))) ss_nil)))))
      (ss_cons
      (s_set F 5 (d_lst a_nil))
      (ss_cons
      (s_for F (fun _ => PassesOwn.never) (i_seq F (d_var 1)) (g_name F 6) (ss_one
      (s_set F 5 (d_op (fun i => op_adds (F.hK i)) opd_add (q_of (d_var 5)) (q_of (d_lc F [("one", 7)] (i_weak (i_seq F (d_cb (fun i => cr_sortE (F.hK i) (F.u70 i)) crd_sortE (fun _ => T.n_sorted) (by decide +kernel) (b_cons (q_var 3) b_nil)))) hS (blkOk_by (by decide +kernel)) (g_name (F.blk _) 7) gk_name ts_nil (d_op (fun i => op_adds ((F.blk _).hK i)) opd_add (q_of (d_var 6)) (q_of (d_tup (a_cons (d_var 7) a_nil))))))))))
      (ss_one
      (s_set F 1 (d_var 5))))))))
      (ss_one
      (s_ret (d_var 1)))))

/-! all_contents, level 3 -/
theorem sc_all_contents : FnScope ["table", "contents", "row", "longer", "rows"] ["table"] (defScope s_all_contents) := ⟨rfl, rfl, rfl, by decide +kernel, rfl, by decide +kernel, by decide +kernel⟩
def lt1_all_contents : En → Option Bool :=
    (mTru (mCB fm_may_follow (mCons (mVar 0) (mCons (mVar 4) (mCons (mVar 2) mNil)))))
def le1_all_contents : En → Option PyData :=
    (mTup (mStar (mVar 4) (mCons (mVar 2) mNil)))
def lb1_all_contents : En → Option Fl :=
    (mSeq
    (mAsg (mLc [4] (mIt (mVar 1)) (gB 4) lt1_all_contents le1_all_contents) (gB 3))
    (mAsg (mBin dAdd (mVar 1) (mVar 3)) (gB 1)))
def mb_all_contents : En → Option Fl :=
    (mSeq
    (mAsg (mLst (mCons (mTup mNil) mNil)) (gB 1))
    (mSeq
    (mFor (mIt (mCB fm_possible_rows (mCons (mVar 0) mNil))) (gB 2) lb1_all_contents)
    (mRet (mCB bSortE (mCons (mVar 1) mNil)))))
def fm_all_contents : List PyData → Option PyData := runB 5 mb_all_contents
theorem ok_all_contents {P : Program} {w : World} {K : PySem.W.Frag} {mg : Str → Option Value} {base : Heap} (T : Txt K mg w) (G_possible_rows : FnOk P w K mg base CX0 2 T.f_possible_rows T.fd_possible_rows ["table"] (spD K 1 fm_possible_rows)) (G_may_follow : FnOk P w K mg base CX0 2 T.f_may_follow T.fd_may_follow ["table", "rows", "row"] (spD K 3 fm_may_follow)) : FnOk P w K mg base CX0 3 T.f_all_contents T.fd_all_contents ["table"] (spD K 1 fm_all_contents) := by
  have F := defF_fam (P := P) (w := w) (K := K) (mg := mg) (base := base) (qual := "all_contents") (sc := defScope s_all_contents) (f := T.f_all_contents) (j := 2) sc_all_contents.nd
  have hS := fun i => (rfl : (defF P w K mg base ["table", "contents", "row", "longer", "rows"] "all_contents" (defScope s_all_contents) T.f_all_contents 2 i).env.scope = defScope s_all_contents)
  exact fn_data (M := []) T.F_all_contents sc_all_contents (by decide)
      (ss_cons
      (s_set F 1 (d_lst (a_cons (d_tup a_nil) a_nil)))
      (ss_cons
      (s_for F (fun _ => PassesOwn.never) (i_seq F (d_call (fun _ => G_possible_rows) (fun i => (F.room i).mono (by omega)) (fun _ => T.g_possible_rows) (fun _ => T.k_possible_rows) (fun _ => T.b_possible_rows) (a_cons (d_var 0) a_nil) (len_cons len_nil))) (g_name F 2) (ss_cons
      (s_setLc F 3 [("rows", 4)] (i_weak (i_seq F (d_var 1))) hS (blkOk_by (by decide +kernel)) (g_name (F.blk _) 4) gk_name (ts_one (t_tru (F.blk _) (q_of (d_call (fun _ => G_may_follow) (fun i => ((F.blk _).room i).mono (by omega)) (fun _ => T.g_may_follow) (fun _ => T.k_may_follow) (fun _ => T.b_may_follow) (a_cons (d_var 0) (a_cons (d_var 4) (a_cons (d_var 2) a_nil))) (len_cons (len_cons (len_cons len_nil))))))) (d_tup (a_star (F.blk _) (d_var 4) (a_cons (d_var 2) a_nil))))
      (ss_one
      (s_set F 1 (d_op (fun i => op_adds (F.hK i)) opd_add (q_of (d_var 1)) (q_of (d_var 3)))))))
      (ss_one
      (s_ret (d_cb (fun i => cr_sortE (F.hK i) (F.u70 i)) crd_sortE (fun _ => T.n_sorted) (by decide +kernel) (b_cons (q_of (d_var 1)) b_nil))))))

/-! check_few_rows, level 3 -/
theorem sc_check_few_rows : FnScope ["ground", "most", "table"] ["ground", "most"] (defScope s_check_few_rows) := ⟨rfl, rfl, rfl, by decide +kernel, rfl, by decide +kernel, by decide +kernel⟩
def le1_check_few_rows : En → Option PyData :=
    (mCB fm_count_rows (mCons (mBin dIx (mVar 2) (mC (.int 2))) mNil))
def mb_check_few_rows : En → Option Fx :=
    (mIfX (mTst (mBin dGt (mCB bSum (mCons (mLc [2] (mIt (mVar 0)) (gB 2) mYes le1_check_few_rows) mNil)) (mVar 1))) (fun env => ((mFs [mLit "more than ", mFmt (mVar 1), mLit " rows are possible"]) env).bind fun _ => some (.xc "TooMany" env)) (mFl mNext))
def fx_check_few_rows : List PyData → Option (PyData ⊕ Str) := runX 3 mb_check_few_rows
theorem ok_check_few_rows {P : Program} {w : World} {K : PySem.W.Frag} {mg : Str → Option Value} {base : Heap} (T : Txt K mg w) (G_count_rows : FnOk P w K mg base CX0 2 T.f_count_rows T.fd_count_rows ["columns"] (spD K 1 fm_count_rows)) : FnOk P w K mg base (L2N.CX P w) 3 T.f_check_few_rows T.fd_check_few_rows ["ground", "most"] (spX K mg 2 fx_check_few_rows) := by
  have F := defX_fam (P := P) (w := w) (K := K) (mg := mg) (base := base) (qual := "check_few_rows") (sc := defScope s_check_few_rows) (f := T.f_check_few_rows) (j := 2) sc_check_few_rows.nd
  have hS := fun i => (rfl : (defX P w K mg base ["ground", "most", "table"] "check_few_rows" (defScope s_check_few_rows) T.f_check_few_rows 2 i).env.scope = defScope s_check_few_rows)
  exact fn_dataX (M := []) T.F_check_few_rows sc_check_few_rows (by decide)
      (xs_one
      (x_if (t_cmp (fun _ => op_gt) opd_gt (q_of (d_cb (fun i => cr_sumK (F.hK i) (F.calm i)) crd_sum (fun _ => T.n_sum) (by decide +kernel) (b_cons (q_of (d_lc F [("table", 2)] (i_weak (i_seq F (d_var 0))) hS (blkOk_by (by decide +kernel)) (g_name (F.blk _) 2) gk_name ts_nil (d_call (fun _ => G_count_rows) (fun i => ((F.blk _).room i).mono (by omega)) (fun _ => T.g_count_rows) (fun _ => T.k_count_rows) (fun _ => T.b_count_rows) (a_cons (d_ix (fun i => ix_seqK ((F.blk _).hK i)) opd_ix (q_of (d_var 2)) (q_of d_int)) a_nil) (len_cons len_nil)))) b_nil))) (q_of (d_var 1))) (xs_one
      (have hE := (d_fstr (j_lit (j_fmt (d_var 1) (j_lit j_nil)))); x_raiseA F T.mgc_TooMany defX_tk hE (fun i => pmk_any PySem.F.excBase_ValueError T.er_TooMany.xc T.mgc_TooMany T.er_TooMany.kc (raises_own T.er_TooMany.bc T.ec_TooMany.ty) rfl (hE.pe i)))) (xs_of ss_nil)))

/-! count_contents, level 3 -/
theorem sc_count_contents : FnScope ["table", "keyed", "keys", "rows_of_key", "total", "ways", "many", "name", "key", "columns"] ["table"] (defScope s_count_contents) := ⟨rfl, rfl, rfl, by decide +kernel, rfl, by decide +kernel, by decide +kernel⟩
def lb1_count_contents : En → Option Fl :=
    (mSeq
    (mAug 4 dAddI (mVar 5))
    (mAsg (mBin dMul (mBin dDiv (mBin dMul (mVar 5) (mBin dSub (mVar 2) (mVar 6))) (mBin dAdd (mVar 6) (mC (.int 1)))) (mVar 3)) (gB 5)))
def mb_count_contents : En → Option Fl :=
    (mSeq
    (mAsg (mVar 0) (gT 3 (gsC (gB 7) (gsC (gB 8) (gsC (gB 9) gsN)))))
    (mSeq
    (mAsg (mIf (mTst (mBin dGt (mVar 8) (mC (.int 0)))) (mSl (mVar 9) mNoPart (mPart (mVar 8))) (mVar 9)) (gB 1))
    (mSeq
    (mAsg (mCB fm_count_rows (mCons (mVar 1) mNil)) (gB 2))
    (mSeq
    (mAsg (mCB fm_count_rows (mCons (mSl (mVar 9) (mPart (mCB bLen (mCons (mVar 1) mNil))) mNoPart) mNil)) (gB 3))
    (mSeq
    (mAsg (mC (.int 0)) (gB 4))
    (mSeq
    (mAsg (mC (.int 1)) (gB 5))
    (mSeq
    (mFor (mRng rng1 (mCons (mBin dAdd (mC c_MOST_IN_TABLE) (mC (.int 1))) mNil)) (gB 6) lb1_count_contents)
    (mRet (mVar 4)))))))))
def fm_count_contents : List PyData → Option PyData := runB 10 mb_count_contents
theorem ok_count_contents {P : Program} {w : World} {K : PySem.W.Frag} {mg : Str → Option Value} {base : Heap} (T : Txt K mg w) (G_count_rows : FnOk P w K mg base CX0 2 T.f_count_rows T.fd_count_rows ["columns"] (spD K 1 fm_count_rows)) : FnOk P w K mg base CX0 3 T.f_count_contents T.fd_count_contents ["table"] (spD K 1 fm_count_contents) := by
  have F := defF_fam (P := P) (w := w) (K := K) (mg := mg) (base := base) (qual := "count_contents") (sc := defScope s_count_contents) (f := T.f_count_contents) (j := 2) sc_count_contents.nd
  have hS := fun i => (rfl : (defF P w K mg base ["table", "keyed", "keys", "rows_of_key", "total", "ways", "many", "name", "key", "columns"] "count_contents" (defScope s_count_contents) T.f_count_contents 2 i).env.scope = defScope s_count_contents)
  exact fn_data (M := []) T.F_count_contents sc_count_contents (by decide)
      (ss_cons
      (s_asg (d_var 0) (g_tup F (gs_cons (g_name F 7) (gs_cons (g_name F 8) (gs_cons (g_name F 9) gs_nil)))))
      (ss_cons
      (s_set F 1 (d_if (t_cmp (fun _ => op_gt) opd_gt (q_of (d_var 8)) (q_of d_int)) (d_sl F (q_of (d_var 9)) o_none (o_some (d_var 8))) (d_var 9)))
      (ss_cons
      (s_set F 2 (d_call (fun _ => G_count_rows) (fun i => (F.room i).mono (by omega)) (fun _ => T.g_count_rows) (fun _ => T.k_count_rows) (fun _ => T.b_count_rows) (a_cons (d_var 1) a_nil) (len_cons len_nil)))
      (ss_cons
      (s_set F 3 (d_call (fun _ => G_count_rows) (fun i => (F.room i).mono (by omega)) (fun _ => T.g_count_rows) (fun _ => T.k_count_rows) (fun _ => T.b_count_rows) (a_cons (d_sl F (q_of (d_var 9)) (o_some (d_cb (fun i => cr_len (F.hK i)) crd_len (fun _ => T.n_len) (by decide +kernel) (b_cons (q_of (d_var 1)) b_nil))) o_none) a_nil) (len_cons len_nil)))
      (ss_cons
      (s_set F 4 d_int)
      (ss_cons
      (s_set F 5 d_int)
      (ss_cons
      (s_for F (fun _ => PassesOwn.never) (i_range1 (fun _ => T.n_range) (a_cons (d_op (fun i => op_adds (F.hK i)) opd_add (q_of (d_glob T.dp_MOST_IN_TABLE (fun _ => pe_glob rfl T.mg_MOST_IN_TABLE T.rl_MOST_IN_TABLE))) (q_of d_int)) a_nil)) (g_name F 6) (ss_cons
      (s_aug F 4 (fun _ => ip_addI) opd_addI (d_var 5))
      (ss_one
      (s_set F 5 (d_op (fun _ => op_mulA) opd_mul (q_of (d_op (fun _ => op_fdivW) opd_div (q_of (d_op (fun _ => op_mulA) opd_mul (q_of (d_var 5)) (q_of (d_op (fun _ => op_sub) opd_sub (q_of (d_var 2)) (q_of (d_var 6)))))) (q_of (d_op (fun i => op_adds (F.hK i)) opd_add (q_of (d_var 6)) (q_of d_int))))) (q_of (d_var 3)))))))
      (ss_one
      (s_ret (d_var 4))))))))))

/-! law_ground, level 3 -/
theorem sc_law_ground : FnScope ["picks", "top", "found", "left", "k", "some", "key", "name", "columns", "room", "one"] ["picks", "top"] (defScope s_law_ground) := ⟨rfl, rfl, rfl, by decide +kernel, rfl, by decide +kernel, by decide +kernel⟩
def le1_law_ground : En → Option PyData :=
    (mBin dIx (mVar 10) (mC (.int 0)))
def le2_law_ground : En → Option PyData :=
    (mBin dIx (mVar 10) (mC (.int 2)))
def le3_law_ground : En → Option PyData :=
    (mBin dIx (mVar 10) (mC (.int 2)))
def lb1_law_ground : En → Option Fl :=
    (mSeq
    (mAsg (mSl (mVar 0) (mPart (mBin dAdd (mC (.int 1)) (mBin dMul (mC (.int 36)) (mVar 4)))) (mPart (mBin dAdd (mC (.int 37)) (mBin dMul (mC (.int 36)) (mVar 4))))) (gB 5))
    (mIfS (mTst (mBin dGt (mVar 3) (mC (.int 0)))) (mSeq
    (mAsg (mCB fm_law_columns (mCons (mSl (mVar 5) (mPart (mC (.int 7))) mNoPart) (mCons (mBin dAdd (mC (.int 1)) (mBin dMod (mBin dIx (mVar 5) (mC (.int 5))) (mC (.int 4)))) (mCons (mVar 3) mNil)))) (gT 2 (gsC (gB 8) (gsC (gB 9) gsN))))
    (mSeq
    (mAsg (mIf (mTru (mCB bAny (mCons (mLc [10] (mIt (mVar 8)) (gB 10) mYes le2_law_ground) mNil))) (mIndex (mLc [10] (mIt (mVar 8)) (gB 10) mYes le3_law_ground) (mC (.bool true))) (mCB bLen (mCons (mVar 8) mNil))) (gB 6))
    (mSeq
    (mAsg (mCB fm_law_name (mCons (mVar 5) (mCons (mLc [10] (mIt (mVar 2)) (gB 10) mYes le1_law_ground) mNil))) (gB 7))
    (mSeq
    (mApp 2 (mTup (mCons (mVar 7) (mCons (mBin dMod (mBin dIx (mVar 5) (mC (.int 6))) (mBin dAdd (mVar 6) (mC (.int 1)))) (mCons (mVar 8) mNil)))))
    (mAsg (mBin dSub (mVar 3) (mVar 9)) (gB 3)))))) mNext))
def mb_law_ground : En → Option Fl :=
    (mSeq
    (mAsg (mLst mNil) (gB 2))
    (mSeq
    (mAsg (mVar 1) (gB 3))
    (mSeq
    (mFor (mRng rng1 (mCons (mBin dAdd (mC (.int 1)) (mBin dMod (mBin dIx (mVar 0) (mC (.int 0))) (mC (.int 4)))) mNil)) (gB 4) lb1_law_ground)
    (mRet (mCB bTuple (mCons (mCB bSorted (mCons (mVar 2) mNil)) mNil))))))
def fm_law_ground : List PyData → Option PyData := runB 11 mb_law_ground
theorem ok_law_ground {P : Program} {w : World} {K : PySem.W.Frag} {mg : Str → Option Value} {base : Heap} (T : Txt K mg w) (G_law_name : FnOk P w K mg base CX0 1 T.f_law_name T.fd_law_name ["some", "taken"] (spD K 2 fm_law_name)) (G_law_columns : FnOk P w K mg base CX0 2 T.f_law_columns T.fd_law_columns ["picks", "many", "top"] (spD K 3 fm_law_columns)) : FnOk P w K mg base CX0 3 T.f_law_ground T.fd_law_ground ["picks", "top"] (spD K 2 fm_law_ground) := by
  have F := defF_fam (P := P) (w := w) (K := K) (mg := mg) (base := base) (qual := "_law_ground") (sc := defScope s_law_ground) (f := T.f_law_ground) (j := 2) sc_law_ground.nd
  have hS := fun i => (rfl : (defF P w K mg base ["picks", "top", "found", "left", "k", "some", "key", "name", "columns", "room", "one"] "_law_ground" (defScope s_law_ground) T.f_law_ground 2 i).env.scope = defScope s_law_ground)
  exact fn_data (M := [2]) T.F_law_ground sc_law_ground (by decide)
      (ss_cons
      (s_own F 2 f_nil)
      (ss_cons
      (s_set F 3 (d_var 1))
      (ss_cons
      (s_for F (fun _ => PassesOwn.never) (i_range1 (fun _ => T.n_range) (a_cons (d_op (fun i => op_adds (F.hK i)) opd_add (q_of d_int) (q_of (d_op (fun _ => op_mod) opd_mod (q_of (d_ix (fun i => ix_seqK (F.hK i)) opd_ix (q_of (d_var 0)) (q_of d_int))) (q_of d_int)))) a_nil)) (g_name F 4) (ss_cons
      (s_set F 5 (d_sl F (q_of (d_var 0)) (o_some (d_op (fun i => op_adds (F.hK i)) opd_add (q_of d_int) (q_of (d_op (fun _ => op_mulA) opd_mul (q_of d_int) (q_of (d_var 4)))))) (o_some (d_op (fun i => op_adds (F.hK i)) opd_add (q_of d_int) (q_of (d_op (fun _ => op_mulA) opd_mul (q_of d_int) (q_of (d_var 4))))))))
      (ss_one
      (s_if (t_cmp (fun _ => op_gt) opd_gt (q_of (d_var 3)) (q_of d_int)) (ss_cons
      (s_asg (d_call (fun _ => G_law_columns) (fun i => (F.room i).mono (by omega)) (fun _ => T.g_law_columns) (fun _ => T.k_law_columns) (fun _ => T.b_law_columns) (a_cons (d_sl F (q_of (d_var 5)) (o_some d_int) o_none) (a_cons (d_op (fun i => op_adds (F.hK i)) opd_add (q_of d_int) (q_of (d_op (fun _ => op_mod) opd_mod (q_of (d_ix (fun i => ix_seqK (F.hK i)) opd_ix (q_of (d_var 5)) (q_of d_int))) (q_of d_int)))) (a_cons (d_var 3) a_nil))) (len_cons (len_cons (len_cons len_nil)))) (g_tup F (gs_cons (g_name F 8) (gs_cons (g_name F 9) gs_nil))))
      (ss_cons
      (s_set F 6 (d_if (t_tru F (q_of (d_cb (fun i => cr_anyK (F.hK i) (F.calm i)) crd_any (fun _ => T.n_any) (by decide +kernel) (b_cons (q_of (d_lc F [("one", 10)] (i_weak (i_seq F (d_var 8))) hS (blkOk_by (by decide +kernel)) (g_name (F.blk _) 10) gk_name ts_nil (d_ix (fun i => ix_seqK ((F.blk _).hK i)) opd_ix (q_of (d_var 10)) (q_of d_int)))) b_nil)))) (have hA := (q_of (d_lc F [("one", 10)] (i_weak (i_seq F (d_var 8))) hS (blkOk_by (by decide +kernel)) (g_name (F.blk _) 10) gk_name ts_nil (d_ix (fun i => ix_seqK ((F.blk _).hK i)) opd_ix (q_of (d_var 10)) (q_of d_int)))); have hB := (q_of d_bl); d_index F hA hB (fun j => pe_bm PySem.F.plainAttrs_list PySem.F.slot_list_index PySem.F.type_list_index (mt_indexD (F.u65 j)) (hA.pe j) (pa_cons (hB.pe j) pa_nil))) (d_cb (fun i => cr_len (F.hK i)) crd_len (fun _ => T.n_len) (by decide +kernel) (b_cons (q_of (d_var 8)) b_nil))))
      (ss_cons
      (s_set F 7 (d_call (fun _ => G_law_name) (fun i => (F.room i).mono (by omega)) (fun _ => T.g_law_name) (fun _ => T.k_law_name) (fun _ => T.b_law_name) (a_cons (d_var 5) (a_cons (d_lc F [("one", 10)] (i_own F (q_var 2)) hS (blkOk_by (by decide +kernel)) (g_name (F.blk _) 10) gk_name ts_nil (d_ix (fun i => ix_seqK ((F.blk _).hK i)) opd_ix (q_of (d_var 10)) (q_of d_int))) a_nil)) (len_cons (len_cons len_nil))))
      (ss_cons
      (have hE := (d_tup (a_cons (d_var 7) (a_cons (d_op (fun _ => op_mod) opd_mod (q_of (d_ix (fun i => ix_seqK (F.hK i)) opd_ix (q_of (d_var 5)) (q_of d_int))) (q_of (d_op (fun i => op_adds (F.hK i)) opd_add (q_of (d_var 6)) (q_of d_int)))) (a_cons (d_var 8) a_nil)))); s_app F 2 hE (by decide) (fun j => ps_expr (pe_bm PySem.F.plainAttrs_list PySem.F.slot_list_append PySem.F.type_list_append mt_append (pv 2) (pa_cons (hE.pe j) pa_nil))))
      (ss_one
      (s_set F 3 (d_op (fun _ => op_sub) opd_sub (q_of (d_var 3)) (q_of (d_var 9))))))))) ss_nil))))
      (ss_one
      (s_ret (d_ty (fun i => cr_tuple (F.hK i)) crd_tuple (fun _ => T.n_tuple) (by decide +kernel) (b_cons (q_of (d_cb (fun i => cr_sortK (F.hK i) (F.u70 i)) crd_sorted (fun _ => T.n_sorted) (by decide +kernel) (b_cons (q_var 2) b_nil))) b_nil)))))))

/-! all_worlds, level 4 -/
theorem sc_all_worlds : FnScope ["ground", "most", "worlds", "table", "contents", "world", "rows"] ["ground", "most"] (defScope s_all_worlds) := ⟨rfl, rfl, rfl, by decide +kernel, rfl, by decide +kernel, by decide +kernel⟩
def le1_all_worlds : En → Option PyData :=
    (mTup (mStar (mVar 5) (mCons (mVar 6) mNil)))
def lb1_all_worlds : En → Option Fl :=
    (mSeq
    (mAsg (mCB fm_all_contents (mCons (mVar 3) mNil)) (gB 4))
    (mAsg (mLc2 [5, 6] (mIt (mVar 2)) 5 mYes [6] (mIt (mVar 4)) (gB 6) mYes le1_all_worlds) (gB 2)))
def mb_all_worlds : En → Option Fx :=
    (mSeqX
    (mCX fx_check_few_rows (mCons (mVar 0) (mCons (mVar 1) mNil)) fun _ env => some (.nx env))
    (mFl (mSeq
    (mAsg (mLst (mCons (mTup mNil) mNil)) (gB 2))
    (mSeq
    (mFor (mIt (mVar 0)) (gB 3) lb1_all_worlds)
    (mRet (mVar 2))))))
def fx_all_worlds : List PyData → Option (PyData ⊕ Str) := runX 7 mb_all_worlds
theorem ok_all_worlds {P : Program} {w : World} {K : PySem.W.Frag} {mg : Str → Option Value} {base : Heap} (T : Txt K mg w) (G_check_few_rows : FnOk P w K mg base (L2N.CX P w) 3 T.f_check_few_rows T.fd_check_few_rows ["ground", "most"] (spX K mg 2 fx_check_few_rows)) (G_all_contents : FnOk P w K mg base CX0 3 T.f_all_contents T.fd_all_contents ["table"] (spD K 1 fm_all_contents)) : FnOk P w K mg base (L2N.CX P w) 4 T.f_all_worlds T.fd_all_worlds ["ground", "most"] (spX K mg 2 fx_all_worlds) := by
  have F := defX_fam (P := P) (w := w) (K := K) (mg := mg) (base := base) (qual := "all_worlds") (sc := defScope s_all_worlds) (f := T.f_all_worlds) (j := 3) sc_all_worlds.nd
  have hS := fun i => (rfl : (defX P w K mg base ["ground", "most", "worlds", "table", "contents", "world", "rows"] "all_worlds" (defScope s_all_worlds) T.f_all_worlds 3 i).env.scope = defScope s_all_worlds)
  exact fn_dataX (M := []) T.F_all_worlds sc_all_worlds (by decide)
      (xs_cons
      (have hA := (a_cons (d_var 0) (a_cons (d_var 1) a_nil)); x_callE (pe_callX (fun _ => G_check_few_rows) (fun i => (F.room i).mono (by omega)) defX_tk (fun _ => T.g_check_few_rows) (fun _ => T.k_check_few_rows) (fun _ => T.b_check_few_rows) hA) hA.sd (len_cons (len_cons len_nil)))
      (xs_of (ss_cons
      (s_set F 2 (d_lst (a_cons (d_tup a_nil) a_nil)))
      (ss_cons
      (s_for F (fun _ => PassesOwn.leaving) (i_seq F (d_var 0)) (g_name F 3) (ss_cons
      (s_set F 4 (d_call (fun _ => G_all_contents) (fun i => (F.room i).mono (by omega)) (fun _ => T.g_all_contents) (fun _ => T.k_all_contents) (fun _ => T.b_all_contents) (a_cons (d_var 3) a_nil) (len_cons len_nil)))
      (ss_one
      (s_setLc2 F 2 [("world", 5), ("rows", 6)] [6] 5 (i_weak (i_seq F (d_var 2))) hS (blkOk_by (by decide +kernel)) (g_name (F.blk _) 5) ts_nil (i_seq (F.blk _) (d_var 4)) (g_name (F.blk _) 6) gk_name ts_nil (d_tup (a_star (F.blk _) (d_var 5) (a_cons (d_var 6) a_nil)))))))
      (ss_one
      (s_ret (d_var 2)))))))

/-! count_worlds, level 4 -/
theorem sc_count_worlds : FnScope ["ground", "many", "table"] ["ground"] (defScope s_count_worlds) := ⟨rfl, rfl, rfl, by decide +kernel, rfl, by decide +kernel, by decide +kernel⟩
def lb1_count_worlds : En → Option Fl :=
    (mAug 1 dMul (mCB fm_count_contents (mCons (mVar 2) mNil)))
def mb_count_worlds : En → Option Fl :=
    (mSeq
    (mAsg (mC (.int 1)) (gB 1))
    (mSeq
    (mFor (mIt (mVar 0)) (gB 2) lb1_count_worlds)
    (mRet (mVar 1))))
def fm_count_worlds : List PyData → Option PyData := runB 3 mb_count_worlds
theorem ok_count_worlds {P : Program} {w : World} {K : PySem.W.Frag} {mg : Str → Option Value} {base : Heap} (T : Txt K mg w) (G_count_contents : FnOk P w K mg base CX0 3 T.f_count_contents T.fd_count_contents ["table"] (spD K 1 fm_count_contents)) : FnOk P w K mg base CX0 4 T.f_count_worlds T.fd_count_worlds ["ground"] (spD K 1 fm_count_worlds) := by
  have F := defF_fam (P := P) (w := w) (K := K) (mg := mg) (base := base) (qual := "count_worlds") (sc := defScope s_count_worlds) (f := T.f_count_worlds) (j := 3) sc_count_worlds.nd
  have hS := fun i => (rfl : (defF P w K mg base ["ground", "many", "table"] "count_worlds" (defScope s_count_worlds) T.f_count_worlds 3 i).env.scope = defScope s_count_worlds)
  exact fn_data (M := []) T.F_count_worlds sc_count_worlds (by decide)
      (ss_cons
      (s_set F 1 d_int)
      (ss_cons
      (s_for F (fun _ => PassesOwn.never) (i_seq F (d_var 0)) (g_name F 2) (ss_one
      (s_aug F 1 (fun _ => ip_mulA) opd_mul (d_call (fun _ => G_count_contents) (fun i => (F.room i).mono (by omega)) (fun _ => T.g_count_contents) (fun _ => T.k_count_contents) (fun _ => T.b_count_contents) (a_cons (d_var 2) a_nil) (len_cons len_nil)))))
      (ss_one
      (s_ret (d_var 1)))))

/-! law_all, level 5 -/
theorem sc_law_all : FnScope ["ground", "limit", "told", "kin", "e"] ["ground", "limit"] (defScope s_law_all) := ⟨rfl, rfl, rfl, by decide +kernel, rfl, by decide +kernel, by decide +kernel⟩
def lx1_law_all : En → Option Fx :=
    (mIfX (mTst (mBin (dIs false) (mVar 1) (mC .none))) (mCXd fx_all_worlds (mCons (mVar 0) mNil) [(.int 8)] fun d env => some (.nx (env.set 2 (some d)))) (mCXk fx_all_worlds (mCons (mVar 0) mNil) (mCons (mVar 1) mNil) fun d env => some (.nx (env.set 2 (some d)))))
def mb_law_all : En → Option Fl :=
    (mSeq
    (mAsg (mC .none) (gB 2))
    (mSeq
    (mAsg (mLst mNil) (gB 3))
    (mSeq
    (mTry lx1_law_all kinD 4 3)
    (mRet (mTup (mCons (mVar 2) (mCons (mVar 3) mNil)))))))
def fm_law_all : List PyData → Option PyData := runB 5 mb_law_all
theorem ok_law_all {P : Program} {w : World} {K : PySem.W.Frag} {mg : Str → Option Value} {base : Heap} (T : Txt K mg w) (G_all_worlds : FnOk P w K mg base (L2N.CX P w) 4 T.f_all_worlds T.fd_all_worlds ["ground", "most"] (spX K mg 2 fx_all_worlds)) : FnOk P w K mg base CX0 5 T.f_law_all T.fd_law_all ["ground", "limit"] (spD K 2 fm_law_all) := by
  have F := defF_fam (P := P) (w := w) (K := K) (mg := mg) (base := base) (qual := "_law_all") (sc := defScope s_law_all) (f := T.f_law_all) (j := 4) sc_law_all.nd
  have hS := fun i => (rfl : (defF P w K mg base ["ground", "limit", "told", "kin", "e"] "_law_all" (defScope s_law_all) T.f_law_all 4 i).env.scope = defScope s_law_all)
  exact fn_data (M := []) T.F_law_all sc_law_all (by decide)
      (ss_cons
      (s_set F 2 d_non)
      (ss_cons
      (s_set F 3 (d_lst a_nil))
      (ss_cons
      (s_tryKin F 4 3 (fun _ => rfl) (fun _ => rfl) (fun _ => rfl) (fun _ => rfl) (xs_one
      (x_if (t_cmp (fun _ => op_isB) (opd_is false) (q_of (d_var 1)) (q_of d_non)) (xs_one
      (have hA := (a_cons (d_var 0) a_nil); x_callAd (tryF_fam F) 2 (fun i => pe_callSD G_all_worlds (((tryF_fam F).room i).mono (by omega)) rfl T.g_all_worlds T.k_all_worlds T.bd_all_worlds T.vd_all_worlds (fun σ => L2N.passAt i.tk σ) (hA.pa i)) hA.sd (fun _ => (.cons (.int 8) .nil)) (fun env ds h => by rw [List.length_append, ((len_cons len_nil)) env ds h]; rfl))) (xs_one
      (have hA := (a_cons (d_var 0) a_nil); have hW := (kw_cons (d_var 1) kw_nil); x_callAk (n := 1) (m := 1) (tryF_fam F) 2 (fun i => pe_callKS (n := 1) (ks := ["most"]) (x := "all_worlds") G_all_worlds (((tryF_fam F).room i).mono (by omega)) rfl T.g_all_worlds T.k_all_worlds T.bk_all_worlds (fun σ => L2N.passAt i.tk σ) (hA.pa i) (hW.pk i)) hA.sd hW.sd (len_cons len_nil) (len_cons len_nil))))) (kin_ok_VeilError T) (by decide) T.g_law_kin T.k_law_kin T.b_law_kin T.mgc_VeilError)
      (ss_one
      (s_ret (d_tup (a_cons (d_var 2) (a_cons (d_var 3) a_nil))))))))

/-! law, level 6 -/
theorem sc_law : FnScope ["script", "cell", "picks", "ground", "many", "due", "limit", "wide", "told", "table"] ["script"] (defScope s_law) := ⟨rfl, rfl, rfl, by decide +kernel, rfl, by decide +kernel, by decide +kernel⟩
def le1_law : En → Option PyData :=
    (mCB bLen (mCons (mCB fm_law_possible (mCons (mVar 9) mNil)) mNil))
def lb1_law : En → Option Fl :=
    (mSeq
    (mAsg (mCB fm_law_all (mCons (mVar 3) (mCons (mVar 6) mNil))) (gB 8))
    (mIfS (mTst (mBin dNe (mVar 8) (mIf (mTst (mBin dLe (mVar 4) (mIf (mTst (mBin (dIs false) (mVar 6) (mC .none))) (mC (.int 8)) (mVar 6)))) (mTup (mCons (mVar 5) (mCons (mLst mNil) mNil))) (mTup (mCons (mC .none) (mCons (mLst (mCons (mC (.str "TooMany")) (mCons (mC (.str "ValueError")) mNil))) mNil)))))) (mRet (mC (.bool false))) mNext))
def le2_law : En → Option PyData :=
    (mCB bLen (mCons (mCB fm_law_possible (mCons (mVar 9) mNil)) mNil))
def lb2_law : En → Option Fl :=
    (mSeq
    (mAsg (mCB fm_law_draws (mCons (mVar 1) (mCons (mC (.int 320)) (mCons (mC (.int 1000)) mNil)))) (gB 2))
    (mSeq
    (mAsg (mCB fm_law_ground (mCons (mVar 2) (mCons (mBin dIx (mLst (mCons (mC (.int 8)) (mCons (mC (.int 8)) (mCons (mC (.int 5)) (mCons (mC (.int 9)) mNil))))) (mBin dMod (mBin dIx (mVar 2) (mC (.int 300))) (mC (.int 4)))) mNil))) (gB 3))
    (mSeq
    (mAsg (mCB bSum (mCons (mLc [9] (mIt (mVar 3)) (gB 9) mYes le2_law) mNil)) (gB 4))
    (mSeq
    (mAsg (mCB fm_law_worlds (mCons (mVar 3) mNil)) (gB 5))
    (mSeq
    (mIfS (mOrT (mTst (mBin dNe (mCB fm_count_worlds (mCons (mVar 3) mNil)) (mCB bLen (mCons (mVar 5) mNil)))) (mTst (mBin dNe (mC c_MOST_ROWS) (mC (.int 8))))) (mRet (mC (.bool false))) mNext)
    (mSeq
    (mFor (mIt (mLst (mCons (mC .none) (mCons (mBin dMod (mBin dIx (mVar 2) (mC (.int 301))) (mC (.int 9))) (mCons (mCB bMin2 (mCons (mVar 4) (mCons (mC (.int 8)) mNil))) (mCons (mCB bMax2 (mCons (mC (.int 0)) (mCons (mCB bMin2 (mCons (mBin dSub (mVar 4) (mC (.int 1))) (mCons (mC (.int 8)) mNil))) mNil))) mNil)))))) (gB 6) lb1_law)
    (mSeq
    (mAsg (mCB fm_law_ground (mCons (mSl (mVar 2) (mPart (mC (.int 150))) mNoPart) (mCons (mC (.int 60)) mNil))) (gB 7))
    (mIfS (mTst (mBin dGt (mCB bSum (mCons (mLc [9] (mIt (mVar 7)) (gB 9) mYes le1_law) mNil)) (mC (.int 8)))) (mIfS (mTst (mBin dNe (mCB fm_law_all (mCons (mVar 7) (mCons (mC .none) mNil))) (mTup (mCons (mC .none) (mCons (mLst (mCons (mC (.str "TooMany")) (mCons (mC (.str "ValueError")) mNil))) mNil))))) (mRet (mC (.bool false))) mNext) mNext))))))))
def mb_law : En → Option Fl :=
    (mSeq
    (mFor (mIt (mBin dAdd (mLst (mCons (mCB fm_law_cell_at (mCons (mVar 0) (mCons (mC (.int 0)) mNil))) mNil)) (mSl (mVar 0) (mPart (mC (.int 1))) (mPart (mC (.int 4)))))) (gB 1) lb2_law)
    (mRet (mC (.bool true))))
def fm_law : List PyData → Option PyData := runB 10 mb_law
theorem ok_law {P : Program} {w : World} {K : PySem.W.Frag} {mg : Str → Option Value} {base : Heap} (T : Txt K mg w) (G_law_cell_at : FnOk P w K mg base CX0 1 T.f_law_cell_at T.fd_law_cell_at ["script", "k"] (spD K 2 fm_law_cell_at)) (G_law_possible : FnOk P w K mg base CX0 1 T.f_law_possible T.fd_law_possible ["table"] (spD K 1 fm_law_possible)) (G_law_all : FnOk P w K mg base CX0 5 T.f_law_all T.fd_law_all ["ground", "limit"] (spD K 2 fm_law_all)) (G_law_ground : FnOk P w K mg base CX0 3 T.f_law_ground T.fd_law_ground ["picks", "top"] (spD K 2 fm_law_ground)) (G_count_worlds : FnOk P w K mg base CX0 4 T.f_count_worlds T.fd_count_worlds ["ground"] (spD K 1 fm_count_worlds)) (G_law_worlds : FnOk P w K mg base CX0 2 T.f_law_worlds T.fd_law_worlds ["ground"] (spD K 1 fm_law_worlds)) (G_law_draws : FnOk P w K mg base CX0 1 T.f_law_draws T.fd_law_draws ["cell", "many", "base"] (spD K 3 fm_law_draws)) : FnOk P w K mg base CX0 6 T.f_law T.fd_law ["script"] (spD K 1 fm_law) := by
  have F := defF_fam (P := P) (w := w) (K := K) (mg := mg) (base := base) (qual := "law") (sc := defScope s_law) (f := T.f_law) (j := 5) sc_law.nd
  have hS := fun i => (rfl : (defF P w K mg base ["script", "cell", "picks", "ground", "many", "due", "limit", "wide", "told", "table"] "law" (defScope s_law) T.f_law 5 i).env.scope = defScope s_law)
  exact fn_data (M := []) T.F_law sc_law (by decide)
      (ss_cons
      (s_for F (fun _ => PassesOwn.never) (i_seq F (d_op (fun i => op_adds (F.hK i)) opd_add (q_of (d_lst (a_cons (d_call (fun _ => G_law_cell_at) (fun i => (F.room i).mono (by omega)) (fun _ => T.g_law_cell_at) (fun _ => T.k_law_cell_at) (fun _ => T.b_law_cell_at) (a_cons (d_var 0) (a_cons d_int a_nil)) (len_cons (len_cons len_nil))) a_nil))) (q_of (d_sl F (q_of (d_var 0)) (o_some d_int) (o_some d_int))))) (g_name F 1) (ss_cons
      (s_set F 2 (d_call (fun _ => G_law_draws) (fun i => (F.room i).mono (by omega)) (fun _ => T.g_law_draws) (fun _ => T.k_law_draws) (fun _ => T.b_law_draws) (a_cons (d_var 1) (a_cons d_int (a_cons d_int a_nil))) (len_cons (len_cons (len_cons len_nil)))))
      (ss_cons
      (s_set F 3 (d_call (fun _ => G_law_ground) (fun i => (F.room i).mono (by omega)) (fun _ => T.g_law_ground) (fun _ => T.k_law_ground) (fun _ => T.b_law_ground) (a_cons (d_var 2) (a_cons (d_ix (fun i => ix_seqK (F.hK i)) opd_ix (q_of (d_lst (a_cons d_int (a_cons d_int (a_cons d_int (a_cons d_int a_nil)))))) (q_of (d_op (fun _ => op_mod) opd_mod (q_of (d_ix (fun i => ix_seqK (F.hK i)) opd_ix (q_of (d_var 2)) (q_of d_int))) (q_of d_int)))) a_nil)) (len_cons (len_cons len_nil))))
      (ss_cons
      (s_set F 4 (d_cb (fun i => cr_sumK (F.hK i) (F.calm i)) crd_sum (fun _ => T.n_sum) (by decide +kernel) (b_cons (q_of (d_lc F [("table", 9)] (i_weak (i_seq F (d_var 3))) hS (blkOk_by (by decide +kernel)) (g_name (F.blk _) 9) gk_name ts_nil (d_cb (fun i => cr_len ((F.blk _).hK i)) crd_len (fun _ => T.n_len) (by decide +kernel) (b_cons (q_of (d_call (fun _ => G_law_possible) (fun i => ((F.blk _).room i).mono (by omega)) (fun _ => T.g_law_possible) (fun _ => T.k_law_possible) (fun _ => T.b_law_possible) (a_cons (d_var 9) a_nil) (len_cons len_nil))) b_nil)))) b_nil)))
      (ss_cons
      (s_set F 5 (d_call (fun _ => G_law_worlds) (fun i => (F.room i).mono (by omega)) (fun _ => T.g_law_worlds) (fun _ => T.k_law_worlds) (fun _ => T.b_law_worlds) (a_cons (d_var 3) a_nil) (len_cons len_nil)))
      (ss_cons
      (s_if (w_pt (w_or (t_cmp (fun i => op_neK (F.hK i) (F.u64 i)) opd_ne (q_of (d_call (fun _ => G_count_worlds) (fun i => (F.room i).mono (by omega)) (fun _ => T.g_count_worlds) (fun _ => T.k_count_worlds) (fun _ => T.b_count_worlds) (a_cons (d_var 3) a_nil) (len_cons len_nil))) (q_of (d_cb (fun i => cr_len (F.hK i)) crd_len (fun _ => T.n_len) (by decide +kernel) (b_cons (q_of (d_var 5)) b_nil)))) (w_or1 (t_cmp (fun i => op_neK (F.hK i) (F.u64 i)) opd_ne (q_of (d_glob T.dp_MOST_ROWS (fun _ => pe_glob rfl T.mg_MOST_ROWS T.rl_MOST_ROWS))) (q_of d_int))))) (ss_one
      (s_ret d_bl)) ss_nil)
      (ss_cons
      (s_for F (fun _ => PassesOwn.never) (i_seq F (d_lst (a_cons d_non (a_cons (d_op (fun _ => op_mod) opd_mod (q_of (d_ix (fun i => ix_seqK (F.hK i)) opd_ix (q_of (d_var 2)) (q_of d_int))) (q_of d_int)) (a_cons (d_cb (fun i => call_min2 (F.calm i)) crd_min2 (fun _ => T.n_min) (by decide +kernel) (b_cons (q_of (d_var 4)) (b_cons (q_of d_int) b_nil))) (a_cons (d_cb (fun i => call_max2 (F.calm i)) crd_max2 (fun _ => T.n_max) (by decide +kernel) (b_cons (q_of d_int) (b_cons (q_of (d_cb (fun i => call_min2 (F.calm i)) crd_min2 (fun _ => T.n_min) (by decide +kernel) (b_cons (q_of (d_op (fun _ => op_sub) opd_sub (q_of (d_var 4)) (q_of d_int))) (b_cons (q_of d_int) b_nil)))) b_nil))) a_nil)))))) (g_name F 6) (ss_cons
      (s_set F 8 (d_call (fun _ => G_law_all) (fun i => (F.room i).mono (by omega)) (fun _ => T.g_law_all) (fun _ => T.k_law_all) (fun _ => T.b_law_all) (a_cons (d_var 3) (a_cons (d_var 6) a_nil)) (len_cons (len_cons len_nil))))
      (ss_one
      (s_if (t_cmp (fun i => op_neK (F.hK i) (F.u64 i)) opd_ne (q_of (d_var 8)) (q_of (d_if (t_cmp (fun _ => op_le) opd_le (q_of (d_var 4)) (q_of (d_if (t_cmp (fun _ => op_isB) (opd_is false) (q_of (d_var 6)) (q_of d_non)) d_int (d_var 6)))) (d_tup (a_cons (d_var 5) (a_cons (d_lst a_nil) a_nil))) (d_tup (a_cons d_non (a_cons (d_lst (a_cons d_str (a_cons d_str a_nil))) a_nil)))))) (ss_one
      (s_ret d_bl)) ss_nil))))
      (ss_cons
      (s_set F 7 (d_call (fun _ => G_law_ground) (fun i => (F.room i).mono (by omega)) (fun _ => T.g_law_ground) (fun _ => T.k_law_ground) (fun _ => T.b_law_ground) (a_cons (d_sl F (q_of (d_var 2)) (o_some d_int) o_none) (a_cons d_int a_nil)) (len_cons (len_cons len_nil))))
      (ss_one
      (s_if (t_cmp (fun _ => op_gt) opd_gt (q_of (d_cb (fun i => cr_sumK (F.hK i) (F.calm i)) crd_sum (fun _ => T.n_sum) (by decide +kernel) (b_cons (q_of (d_lc F [("table", 9)] (i_weak (i_seq F (d_var 7))) hS (blkOk_by (by decide +kernel)) (g_name (F.blk _) 9) gk_name ts_nil (d_cb (fun i => cr_len ((F.blk _).hK i)) crd_len (fun _ => T.n_len) (by decide +kernel) (b_cons (q_of (d_call (fun _ => G_law_possible) (fun i => ((F.blk _).room i).mono (by omega)) (fun _ => T.g_law_possible) (fun _ => T.k_law_possible) (fun _ => T.b_law_possible) (a_cons (d_var 9) a_nil) (len_cons len_nil))) b_nil)))) b_nil))) (q_of d_int)) (ss_one
      (s_if (t_cmp (fun i => op_neK (F.hK i) (F.u64 i)) opd_ne (q_of (d_call (fun _ => G_law_all) (fun i => (F.room i).mono (by omega)) (fun _ => T.g_law_all) (fun _ => T.k_law_all) (fun _ => T.b_law_all) (a_cons (d_var 7) (a_cons d_non a_nil)) (len_cons (len_cons len_nil)))) (q_of (d_tup (a_cons d_non (a_cons (d_lst (a_cons d_str (a_cons d_str a_nil))) a_nil))))) (ss_one
      (s_ret d_bl)) ss_nil)) ss_nil))))))))))
      (ss_one
      (s_ret d_bl)))

end Rv
namespace Rv
open PySem L2 PySem.Spec PyProof.Rows
/-! ### how a mirror is gone through -/
section
variable {m n : En → Option Fl} {me : En → Option PyData} {mt : En → Option Bool} {mi : En → Option (List PyData)} {env env' : En} {d : PyData} {r : Option Fl}
theorem ev_run {N : Nat} {ds : List PyData} {o : Option PyData} (h : (m (ds.map some ++ List.replicate (N - ds.length) none)) = some (.rt d)) (e : some d = o) : runB N m ds = o := by
  unfold runB
  rw [h]
  exact e
theorem ev_set {i : Nat} (h : me env = some d) (h2 : n (env.set i (some d)) = r) : mSeq (mAsg me (gB i)) n env = r := by
  unfold mSeq mAsg
  rw [h]
  exact h2
theorem ev_set1 {i : Nat} (h : me env = some d) (h2 : some (.nx (env.set i (some d))) = r) : mAsg me (gB i) env = r := by
  unfold mAsg
  rw [h]
  exact h2
theorem ev_bnd {b : PyData → En → Option En} (h : me env = some d) (hb : b d env = some env') (h2 : n env' = r) : mSeq (mAsg me b) n env = r := by
  unfold mSeq mAsg
  rw [h, Option.bind_some, hb]
  exact h2
theorem ev_bnd1 {b : PyData → En → Option En} (h : me env = some d) (hb : b d env = some env') (h2 : some (.nx env') = r) : mAsg me b env = r := by
  unfold mAsg
  rw [h, Option.bind_some, hb]
  exact h2
theorem ev_for {b : PyData → En → Option En} {lb : En → Option Fl} {ds : List PyData} (h : mi env = some ds) (hl : loopD b lb ds env = some (.nx env')) (h2 : n env' = r) : mSeq (mFor mi b lb) n env = r := by
  unfold mSeq mFor
  rw [h, Option.bind_some, hl]
  exact h2
theorem ev_for1 {b : PyData → En → Option En} {lb : En → Option Fl} {ds : List PyData} (h : mi env = some ds) (hl : loopD b lb ds env = some (.nx env')) (h2 : some (.nx env') = r) : mFor mi b lb env = r := by
  unfold mFor
  rw [h, Option.bind_some, hl]
  exact h2
theorem ev_ret (h : me env = some d) : mRet me env = some (.rt d) := by
  unfold mRet
  rw [h]
  rfl
theorem ev_if1T {p : En → Option Fl} (h : mt env = some true) (h2 : m env = r) : mIfS mt m p env = r := by
  unfold mIfS
  rw [h, Option.bind_some, if_pos rfl]
  exact h2
theorem ev_if1F {p : En → Option Fl} (h : mt env = some false) (h2 : p env = r) : mIfS mt m p env = r := by
  unfold mIfS
  rw [h, Option.bind_some, if_neg Bool.false_ne_true]
  exact h2
theorem ev_ifT {p : En → Option Fl} (h : mt env = some true) (hm : m env = some (.nx env')) (h2 : n env' = r) : mSeq (mIfS mt m p) n env = r := by
  unfold mSeq mIfS
  rw [h, Option.bind_some, if_pos rfl, hm]
  exact h2
theorem ev_ifF {p : En → Option Fl} (h : mt env = some false) (hm : p env = some (.nx env')) (h2 : n env' = r) : mSeq (mIfS mt m p) n env = r := by
  unfold mSeq mIfS
  rw [h, Option.bind_some, if_neg Bool.false_ne_true, hm]
  exact h2
theorem ev_ifR {p : En → Option Fl} (h : mt env = some true) (hm : m env = some (.rt d)) : mSeq (mIfS mt m p) n env = some (.rt d) := by
  unfold mSeq mIfS
  rw [h, Option.bind_some, if_pos rfl, hm]
  rfl
theorem ev_seq (h : m env = some (.nx env')) (h2 : n env' = r) : mSeq m n env = r := by
  unfold mSeq
  rw [h]
  exact h2
theorem ev_app {i : Nat} {ds : List PyData} (hl : mVar i env = some (.list ds)) (h : me env = some d) (hz : ds.length < sizeLine) : mApp i me env = some (.nx (env.set i (some (.list (ds ++ [d]))))) := by
  unfold mApp
  rw [hl, Option.bind_some, h]
  exact if_pos hz
theorem ev_lc {vs : List Nat} {b : PyData → En → Option En} {ds es : List PyData} (h : mi env = some ds) (hl : lcD b mt me (wipeD env vs) ds = some es) (hz : es.length ≤ sizeLine) : mLc vs mi b mt me env = some (.list es) := by
  unfold mLc
  rw [h, Option.bind_some, hl, Option.bind_some, if_pos hz]
theorem ev_bin {f : PyData → PyData → Option PyData} {ma mb : En → Option PyData} {a b : PyData} {o : Option PyData} (h1 : ma env = some a) (h2 : mb env = some b) (h3 : f a b = o) : mBin f ma mb env = o := by
  unfold mBin
  rw [h1, Option.bind_some, h2]
  exact h3
theorem ev_cb {f : List PyData → Option PyData} {ms : En → Option (List PyData)} {ds : List PyData} {o : Option PyData} (h1 : ms env = some ds) (h2 : f ds = o) : mCB f ms env = o := by
  unfold mCB
  rw [h1]
  exact h2
theorem ev_cons {ms : En → Option (List PyData)} {ds : List PyData} (h1 : me env = some d) (h2 : ms env = some ds) : mCons me ms env = some (d :: ds) := by
  unfold mCons
  rw [h1, Option.bind_some, h2]
  rfl
theorem ev_tup {ms : En → Option (List PyData)} {ds : List PyData} (h1 : ms env = some ds) (h2 : ds.length ≤ sizeLine) : mTup ms env = some (.tuple ds) := by
  unfold mTup
  rw [h1, Option.bind_some, if_pos h2]
theorem ev_lst {ms : En → Option (List PyData)} {ds : List PyData} (h1 : ms env = some ds) (h2 : ds.length ≤ sizeLine) : mLst ms env = some (.list ds) := by
  unfold mLst
  rw [h1, Option.bind_some, if_pos h2]
theorem ev_sl {ma : En → Option PyData} {ml mh : En → Option (Option Int)} {a : PyData} {lo hi : Option Int} {o : Option PyData} (h1 : ma env = some a) (h2 : ml env = some lo) (h3 : mh env = some hi) (h4 : dSl a lo hi = o) : mSl ma ml mh env = o := by
  unfold mSl
  rw [h1, Option.bind_some, h2, Option.bind_some, h3]
  exact h4
theorem ev_part {i : Int} (h : me env = some (.int i)) : mPart me env = some (some i) := by
  unfold mPart
  rw [h]
  rfl
theorem ev_iT {ma mb : En → Option PyData} {o : Option PyData} (h : mt env = some true) (h2 : ma env = o) : mIf mt ma mb env = o := by
  unfold mIf
  rw [h, Option.bind_some, if_pos rfl]
  exact h2
theorem ev_iF {ma mb : En → Option PyData} {o : Option PyData} (h : mt env = some false) (h2 : mb env = o) : mIf mt ma mb env = o := by
  unfold mIf
  rw [h, Option.bind_some, if_neg Bool.false_ne_true]
  exact h2
theorem ev_tst {b : Bool} (h : me env = some (.bool b)) : mTst me env = some b := by
  unfold mTst
  rw [h]
  rfl
theorem ev_tru {b : Bool} (h : me env = some d) (h2 : truD d = some b) : mTru me env = some b := by
  unfold mTru
  rw [h]
  exact h2
theorem ev_rng {f : List PyData → Option (List PyData)} {ms : En → Option (List PyData)} {ds : List PyData} {o : Option (List PyData)} (h1 : ms env = some ds) (h2 : f ds = o) : mRng f ms env = o := by
  unfold mRng
  rw [h1]
  exact h2
theorem ev_it {o : Option (List PyData)} (h1 : me env = some d) (h2 : itemsD d = o) : mIt me env = o := by
  unfold mIt
  rw [h1]
  exact h2
end
theorem rng1_ok {j : Int} (h0 : -(2 ^ 62) ≤ j) (h1 : j < 2 ^ 62) : rng1 [.int j] = some (rangeD 0 j.toNat) := by
  unfold rng1
  exact if_pos ⟨h0, h1⟩
theorem dAdd_int (i j : Int) : dAdd (.int i) (.int j) = some (.int (i + j)) := rfl
theorem dSub_int (i j : Int) : dSub (.int i) (.int j) = some (.int (i - j)) := rfl
theorem dMul_int {i j : Int} (h : CMulA i j) : dMul (.int i) (.int j) = some (.int (i * j)) := if_pos h
theorem dDiv_int {i j : Int} (h : CDivW i j) : dDiv (.int i) (.int j) = some (.int (i / j)) := if_pos h
theorem dMod_int {i j : Int} (h : 0 < j) : dMod (.int i) (.int j) = some (.int (i % j)) := if_pos h
theorem dGt_int (i j : Int) : dGt (.int i) (.int j) = some (.bool (decide (j < i))) := rfl
theorem dGe_int (i j : Int) : dGe (.int i) (.int j) = some (.bool (decide (j ≤ i))) := rfl
theorem dLt_int (i j : Int) : dLt (.int i) (.int j) = some (.bool (decide (i < j))) := rfl
theorem shaped_int (i : Int) : SeqAt.shaped (.int i) = true := rfl
theorem shaped_bool (b : Bool) : SeqAt.shaped (.bool b) = true := rfl
theorem dEq_int (i j : Int) : dEq (.int i) (.int j) = some (.bool (i == j)) := if_pos ⟨rfl, rfl⟩
theorem dNe_int (i j : Int) : dNe (.int i) (.int j) = some (.bool (!(i == j))) := if_pos ⟨rfl, rfl⟩
theorem gB_ap (i : Nat) (d : PyData) (env : En) : gB i d env = some (env.set i (some d)) := rfl
/-! ### plain mathematics -/
theorem loop_inv {bind : PyData → En → Option En} {body : En → Option Fl} (Inv : Nat → En → Prop) {ds : List PyData} {env : En} (h0 : Inv 0 env)
    (step : ∀ i d e, ds[i]? = some d → Inv i e → ∃ e1 e2, bind d e = some e1 ∧ (body e1 = some (.nx e2) ∨ body e1 = some (.ct e2)) ∧ Inv (i + 1) e2) : ∃ e', loopD bind body ds env = some (.nx e') ∧ Inv ds.length e' := by
  have go : ∀ (rest : List PyData) (i : Nat) (e : En), ds.drop i = rest → Inv i e → i ≤ ds.length → ∃ e', loopD bind body rest e = some (.nx e') ∧ Inv ds.length e' := fun rest => by
    induction rest with
    | nil =>
      intro i e hd hi hle
      have : i = ds.length := by
        have := List.drop_eq_nil_iff.mp hd
        omega
      subst this
      exact ⟨e, rfl, hi⟩
    | cons d rest ih =>
      intro i e hd hi hle
      have hlt : i < ds.length := by
        by_cases z : i < ds.length
        · exact z
        · rw [List.drop_of_length_le (by omega)] at hd
          cases hd
      rw [List.drop_eq_getElem_cons hlt] at hd
      injection hd with hd1 hd2
      obtain ⟨e1, e2, h1, h2, h3⟩ := step i d e (by rw [← hd1]; exact List.getElem?_eq_getElem hlt) hi
      obtain ⟨e', h4, h5⟩ := ih (i + 1) e2 hd2 h3 hlt
      refine ⟨e', ?_, h5⟩
      show ((bind d e).bind _) = _
      rw [h1, Option.bind_some]
      rcases h2 with h2 | h2
      · rw [h2, Option.bind_some]
        exact h4
      · rw [h2, Option.bind_some]
        exact h4
  exact go ds 0 env rfl h0 (Nat.zero_le _)
theorem rangeD_len (lo : Int) (n : Nat) : (rangeD lo n).length = n := by
  simp only [rangeD, List.length_map, List.length_range]
theorem rangeD_get {lo : Int} {n i : Nat} {d : PyData} (h : (rangeD lo n)[i]? = some d) : i < n ∧ d = .int (lo + (i : Int)) := by
  have hi : i < n := by
    have := (List.getElem?_eq_some_iff.mp h).1
    rw [rangeD_len] at this
    exact this
  unfold rangeD at h
  rw [List.getElem?_map, List.getElem?_range hi] at h
  cases h
  exact ⟨hi, rfl⟩
theorem loop_range {bind : PyData → En → Option En} {body : En → Option Fl} (Inv : Nat → En → Prop) {lo : Int} {n : Nat} {env : En} (h0 : Inv 0 env)
    (step : ∀ (i : Nat) e, i < n → Inv i e → ∃ e1 e2, bind (.int (lo + (i : Int))) e = some e1 ∧ (body e1 = some (.nx e2) ∨ body e1 = some (.ct e2)) ∧ Inv (i + 1) e2) : ∃ e', loopD bind body (rangeD lo n) env = some (.nx e') ∧ Inv n e' := by
  have := loop_inv (ds := rangeD lo n) Inv h0 fun i d e hd hi => by
    obtain ⟨h1, rfl⟩ := rangeD_get hd
    exact step i e h1 hi
  rw [rangeD_len] at this
  exact this
theorem lc_map {bind : PyData → En → Option En} {mt : En → Option Bool} {me : En → Option PyData} {env : En} {f : PyData → PyData} : ∀ {ds : List PyData}, (∀ d ∈ ds, ∃ e1, bind d env = some e1 ∧ mt e1 = some true ∧ me e1 = some (f d)) → lcD bind mt me env ds = some (ds.map f)
  | [], _ => rfl
  | d :: ds, h => by
    obtain ⟨e1, h1, h2, h3⟩ := h d List.mem_cons_self
    have ih := lc_map (f := f) (ds := ds) fun x hx => h x (List.mem_cons_of_mem _ hx)
    show ((bind d env).bind _) = _
    rw [h1, Option.bind_some, h2, Option.bind_some, if_pos rfl, h3, Option.bind_some, ih]
    rfl
theorem lc_filter {bind : PyData → En → Option En} {mt : En → Option Bool} {me : En → Option PyData} {env : En} {f : PyData → PyData} {p : PyData → Bool} : ∀ {ds : List PyData}, (∀ d ∈ ds, ∃ e1, bind d env = some e1 ∧ mt e1 = some (p d) ∧ me e1 = some (f d)) → lcD bind mt me env ds = some ((ds.filter p).map f)
  | [], _ => rfl
  | d :: ds, h => by
    obtain ⟨e1, h1, h2, h3⟩ := h d List.mem_cons_self
    have ih := lc_filter (f := f) (p := p) (ds := ds) fun x hx => h x (List.mem_cons_of_mem _ hx)
    show ((bind d env).bind _) = _
    rw [h1, Option.bind_some, h2, Option.bind_some]
    cases hp : p d with
    | true =>
      rw [if_pos rfl, h3, Option.bind_some, ih, List.filter_cons, if_pos hp]
      rfl
    | false =>
      rw [if_neg Bool.false_ne_true, ih, List.filter_cons, if_neg (by rw [hp]; exact Bool.false_ne_true)]
theorem cmulR {i j : Int} (h1 : -(2 ^ 64) < j) (h2 : j < 2 ^ 64) : CMulA i j := .inl (.inr ⟨h1, h2⟩)
theorem cmulL {i j : Int} (h1 : -(2 ^ 64) < i) (h2 : i < 2 ^ 64) : CMulA i j := .inl (.inl ⟨h1, h2⟩)
theorem cdivS {i j : Int} (h1 : 0 < j) (h2 : j < 2 ^ 62) : CDivW i j := wide_div (b := 62) h1 (by omega) (by decide) (by decide)
theorem line_big {n : Nat} (h : n ≤ 100000) : n ≤ sizeLine := Nat.le_trans h (by decide)
theorem line_lt {n : Nat} (h : n < 100000) : n < sizeLine := Nat.lt_of_lt_of_le h (by decide)
/-- sums -/
def sw (f : Nat → Int) : Nat → Int
  | 0 => 0
  | n + 1 => sw f n + f n
theorem sw_front (f : Nat → Int) : ∀ n, sw f (n + 1) = f 0 + sw (fun k => f (k + 1)) n
  | 0 => by simp [sw]
  | n + 1 => by
    rw [sw, sw_front f n, sw]
    omega
theorem sw_add (f g : Nat → Int) : ∀ n, sw (fun k => f k + g k) n = sw f n + sw g n
  | 0 => by simp [sw]
  | n + 1 => by
    rw [sw, sw, sw, sw_add f g n]
    omega
theorem sw_congr {f g : Nat → Int} : ∀ {n : Nat}, (∀ k, k < n → f k = g k) → sw f n = sw g n
  | 0, _ => rfl
  | n + 1, h => by rw [sw, sw, sw_congr fun k hk => h k (by omega), h n (by omega)]
theorem sw_mul (c : Int) (f : Nat → Int) : ∀ n, sw (fun k => c * f k) n = c * sw f n
  | 0 => by simp [sw]
  | n + 1 => by rw [sw, sw, sw_mul c f n, Int.mul_add]
theorem sw_zero : ∀ n, sw (fun _ => 0) n = 0
  | 0 => rfl
  | n + 1 => by rw [sw, sw_zero n]; rfl
theorem sw_list (f : Nat → Int) : ∀ n, ((List.range n).map f).sum = sw f n
  | 0 => rfl
  | n + 1 => by
    rw [List.range_succ, List.map_append, List.sum_append, sw_list f n, sw]
    simp
theorem sw_nonneg {f : Nat → Int} : ∀ {n : Nat}, (∀ k, k < n → 0 ≤ f k) → 0 ≤ sw f n
  | 0, _ => Int.le_refl _
  | n + 1, h => by
    rw [sw]
    have := sw_nonneg (f := f) (n := n) fun k hk => h k (by omega)
    have := h n (by omega)
    omega
theorem sw_le {f : Nat → Int} {b : Int} : ∀ {n : Nat}, (∀ k, k < n → f k ≤ b) → sw f n ≤ n * b
  | 0, _ => by simp [sw]
  | n + 1, h => by
    rw [sw]
    have h1 := sw_le (f := f) (b := b) (n := n) fun k hk => h k (by omega)
    have h2 := h n (by omega)
    have e : ((n + 1 : Nat) : Int) * b = (n : Int) * b + b := by
      rw [Int.natCast_add, Int.add_mul]
      simp
    rw [e]
    omega
/-- binomials -/
def bn : Nat → Nat → Int
  | _, 0 => 1
  | 0, _ + 1 => 0
  | n + 1, k + 1 => bn n k + bn n (k + 1)
theorem bn_zero (n : Nat) : bn n 0 = 1 := by cases n <;> rfl
theorem bn_step : ∀ (n m : Nat), ((m : Int) + 1) * bn n (m + 1) + m * bn n m = n * bn n m
  | 0, 0 => by simp [bn]
  | 0, m + 1 => by simp [bn]
  | n + 1, 0 => by
    have := bn_step n 0
    simp only [bn_zero, bn] at this ⊢
    simp at this ⊢
    omega
  | n + 1, m + 1 => by
    have i0 := bn_step n m
    have i1 := bn_step n (m + 1)
    simp only [bn]
    generalize bn n m = b0 at *
    generalize bn n (m + 1) = b1 at *
    generalize bn n (m + 1 + 1) = b2 at *
    push_cast at i0 i1 ⊢
    simp only [Int.add_mul, Int.mul_add, Int.one_mul, Int.mul_one] at i0 i1 ⊢
    omega
theorem bn_nonneg : ∀ (n m : Nat), 0 ≤ bn n m
  | n, 0 => by rw [bn_zero]; decide
  | 0, m + 1 => Int.le_refl _
  | n + 1, m + 1 => by
    have := bn_nonneg n m
    have := bn_nonneg n (m + 1)
    show 0 ≤ bn n m + bn n (m + 1)
    omega
theorem vander : ∀ (h g a : Nat), sw (fun k => bn h k * bn g (a - k)) (a + 1) = bn (h + g) a
  | 0, g, a => by
    rw [sw_front]
    have : sw (fun k => bn 0 (k + 1) * bn g (a - (k + 1))) a = 0 := by
      rw [sw_congr (g := fun _ => 0) fun k _ => by simp [bn]]
      exact sw_zero a
    rw [this, bn_zero, Nat.sub_zero, Nat.zero_add]
    omega
  | h + 1, g, 0 => by
    simp [sw, bn_zero]
  | h + 1, g, a + 1 => by
    have i0 := vander h g a
    have i1 := vander h g (a + 1)
    rw [sw_front] at i1 ⊢
    have e : sw (fun k => bn (h + 1) (k + 1) * bn g (a + 1 - (k + 1))) (a + 1) = sw (fun k => bn h k * bn g (a - k)) (a + 1) + sw (fun k => bn h (k + 1) * bn g (a + 1 - (k + 1))) (a + 1) := by
      rw [← sw_add]
      refine sw_congr fun k _ => ?_
      rw [Nat.add_sub_add_right]
      show (bn h k + bn h (k + 1)) * bn g (a - k) = _
      rw [Int.add_mul]
    rw [e, i0, bn_zero]
    rw [bn_zero] at i1
    have e2 : h + 1 + g = (h + g) + 1 := by omega
    rw [e2]
    show _ = bn (h + g) a + bn (h + g) (a + 1)
    rw [← i1]
    omega
/-! ### ways to choose rows -/
def wz (n : Nat) (r : Int) (m : Nat) : Int := bn n m * r ^ m
theorem wz_step (n : Nat) (r : Int) (m : Nat) : wz n r m * ((n : Int) - m) / ((m : Int) + 1) * r = wz n r (m + 1) := by
  have h := bn_step n m
  have e : wz n r m * ((n : Int) - m) = ((m : Int) + 1) * (bn n (m + 1) * r ^ m) := by
    unfold wz
    have e1 : bn n m * r ^ m * ((n : Int) - m) = (n * bn n m - m * bn n m) * r ^ m := by
      rw [Int.sub_mul, Int.mul_sub, Int.mul_right_comm, Int.mul_right_comm (bn n m) _ (m : Int), Int.mul_comm (bn n m) n, Int.mul_comm (bn n m) m]
    rw [e1, ← h, Int.add_sub_cancel, Int.mul_assoc]
  rw [e, Int.mul_ediv_cancel_left _ (by omega)]
  unfold wz
  rw [Int.pow_succ, Int.mul_assoc]
theorem wz_pascal (n : Nat) (r : Int) (a : Nat) : wz (n + 1) r (a + 1) = wz n r (a + 1) + r * wz n r a := by
  unfold wz
  show (bn n a + bn n (a + 1)) * r ^ (a + 1) = _
  rw [Int.add_mul, Int.add_comm]
  congr 1
  rw [Int.pow_succ, ← Int.mul_assoc, Int.mul_comm]
theorem wz_zero (n : Nat) (r : Int) : wz n r 0 = 1 := by
  unfold wz
  rw [bn_zero, Int.pow_zero, Int.one_mul]
theorem wz_conv (h g : Nat) (r : Int) (a : Nat) : sw (fun k => wz h r k * wz g r (a - k)) (a + 1) = wz (h + g) r a := by
  have e : sw (fun k => wz h r k * wz g r (a - k)) (a + 1) = sw (fun k => r ^ a * (bn h k * bn g (a - k))) (a + 1) := by
    refine sw_congr fun k hk => ?_
    unfold wz
    have ea : r ^ a = r ^ k * r ^ (a - k) := by
      rw [← Int.pow_add]
      congr 1
      omega
    rw [ea]
    generalize r ^ k = x
    generalize r ^ (a - k) = y
    generalize bn h k = p
    generalize bn g (a - k) = q
    show p * x * (q * y) = x * y * (p * q)
    rw [Int.mul_comm p x, Int.mul_assoc, Int.mul_assoc, ← Int.mul_assoc p q y, Int.mul_comm (p * q) y]
  rw [e, sw_mul, vander, Int.mul_comm]
  rfl
theorem pow_nonneg {r : Int} (h : 0 ≤ r) : ∀ m : Nat, 0 ≤ r ^ m
  | 0 => by simp
  | m + 1 => by
    rw [Int.pow_succ]
    exact Int.mul_nonneg (pow_nonneg h m) h
theorem pow_mono {a b : Int} (h0 : 0 ≤ a) (h : a ≤ b) : ∀ m : Nat, a ^ m ≤ b ^ m
  | 0 => by simp
  | m + 1 => by
    rw [Int.pow_succ, Int.pow_succ]
    exact Int.mul_le_mul (pow_mono h0 h m) h h0 (pow_nonneg (by omega) m)
theorem bn_le : ∀ (n m : Nat), bn n m ≤ (n : Int) ^ m
  | n, 0 => by rw [bn_zero]; simp
  | 0, m + 1 => by
    show (0 : Int) ≤ _
    exact pow_nonneg (by simp) _
  | n + 1, m + 1 => by
    have h1 := bn_le n m
    have h2 := bn_le n (m + 1)
    show bn n m + bn n (m + 1) ≤ ((n + 1 : Nat) : Int) ^ (m + 1)
    have h3 : (n : Int) ^ m ≤ ((n + 1 : Nat) : Int) ^ m := pow_mono (by omega) (by omega) m
    have h4 : (n : Int) ^ m * n ≤ ((n + 1 : Nat) : Int) ^ m * n := Int.mul_le_mul_of_nonneg_right h3 (by omega)
    rw [Int.pow_succ] at h2 ⊢
    generalize ((n + 1 : Nat) : Int) ^ m = q at *
    push_cast
    rw [Int.mul_add, Int.mul_one]
    omega
theorem wz_nonneg (n : Nat) {r : Int} (h : 0 ≤ r) (m : Nat) : 0 ≤ wz n r m := Int.mul_nonneg (bn_nonneg n m) (pow_nonneg h m)
theorem wz_le {n : Nat} {r B : Int} (h : 0 ≤ r) (hB : (n : Int) * r ≤ B) (m : Nat) : wz n r m ≤ B ^ m := by
  unfold wz
  have h1 : bn n m * r ^ m ≤ (n : Int) ^ m * r ^ m := Int.mul_le_mul_of_nonneg_right (bn_le n m) (pow_nonneg h m)
  have h2 : (n : Int) ^ m * r ^ m = ((n : Int) * r) ^ m := (Int.mul_pow ..).symm
  rw [h2] at h1
  exact Int.le_trans h1 (pow_mono (Int.mul_nonneg (by omega) h) hB m)
theorem wz_big {n : Nat} {r : Int} (h : 0 ≤ r) (hB : (n : Int) * r ≤ 100000) {m : Nat} (hm : m ≤ 12) : wz n r m < 2 ^ 205 := by
  have h1 : wz n r m ≤ (2 ^ 17) ^ m := wz_le h (Int.le_trans hB (by decide)) m
  have h2 : ((2 : Int) ^ 17) ^ m ≤ ((2 : Int) ^ 17) ^ 12 := by
    have : (12 : Nat) = m + (12 - m) := by omega
    rw [this, Int.pow_add]
    have h3 : (1 : Int) ≤ (2 ^ 17) ^ (12 - m) := by
      have := pow_mono (a := 1) (b := 2 ^ 17) (by decide) (by decide) (12 - m)
      rw [Int.one_pow] at this
      exact this
    have h4 := Int.mul_le_mul_of_nonneg_left h3 (pow_nonneg (r := 2 ^ 17) (by decide) m)
    rw [Int.mul_one] at h4
    exact h4
  have h3 : ((2 : Int) ^ 17) ^ 12 < 2 ^ 205 := by decide
  exact Int.lt_of_le_of_lt (Int.le_trans h1 h2) h3
/-- how many contents a table has -/
def cont (n : Nat) (r : Int) : Int := sw (wz n r) 13
theorem cont_big {n : Nat} {r : Int} (h : 0 ≤ r) (hB : (n : Int) * r ≤ 100000) : 0 ≤ cont n r ∧ cont n r < 2 ^ 210 := by
  refine ⟨sw_nonneg fun k _ => wz_nonneg n h k, ?_⟩
  have := sw_le (f := wz n r) (b := 2 ^ 205) (n := 13) fun k hk => Int.le_of_lt (wz_big h hB (by omega))
  refine Int.lt_of_le_of_lt this ?_
  decide
theorem cont_two {n : Nat} {r : Int} (h : 1 ≤ r) (hn : 1 ≤ n) : 2 ≤ cont n r := by
  unfold cont
  rw [sw_front, wz_zero, sw_front]
  have h1 : wz n r (0 + 1) = bn n 1 * r := by
    unfold wz
    rw [Nat.zero_add, Int.pow_succ, Int.pow_zero, Int.one_mul]
  have h2 : 1 ≤ bn n 1 := by
    have := bn_step n 0
    rw [bn_zero] at this
    simp at this
    omega
  have h3 : 1 ≤ bn n 1 * r := by
    have := Int.mul_le_mul h2 h (by decide) (by omega)
    omega
  have h4 : 0 ≤ sw (fun k => wz n r (k + 1 + 1)) 11 := sw_nonneg fun k _ => wz_nonneg n (by omega) _
  omega
/-! ### columns and tables as data -/
structure Col where
  name : Str
  size : Int
  op : Bool
def Col.enc (c : Col) : PyData := .tuple [.str c.name, .int c.size, .bool c.op]
def b2 (b : Bool) : Int := if b then 1 else 0
def Col.many (c : Col) : Int := c.size + b2 c.op
def Col.Ok (c : Col) : Prop := 1 ≤ c.size ∧ c.size ≤ 9
theorem b2_le (b : Bool) : 0 ≤ b2 b ∧ b2 b ≤ 1 := by cases b <;> decide
theorem Col.Ok.many {c : Col} (h : c.Ok) : 1 ≤ c.many ∧ c.many ≤ 10 := by
  have := b2_le c.op
  obtain ⟨h1, h2⟩ := h
  unfold Col.many
  omega
def prodM : List Col → Int
  | [] => 1
  | c :: cs => c.many * prodM cs
theorem prodM_app : ∀ (as bs : List Col), prodM (as ++ bs) = prodM as * prodM bs
  | [], bs => by simp [prodM]
  | c :: cs, bs => by
    show c.many * prodM (cs ++ bs) = c.many * prodM cs * prodM bs
    rw [prodM_app cs bs, Int.mul_assoc]
theorem prodM_pos : ∀ {cs : List Col}, (∀ c ∈ cs, c.Ok) → 1 ≤ prodM cs
  | [], _ => by simp [prodM]
  | c :: cs, h => by
    have h1 := (h c List.mem_cons_self).many.1
    have h2 := prodM_pos (cs := cs) fun x hx => h x (List.mem_cons_of_mem _ hx)
    show 1 ≤ c.many * prodM cs
    have := Int.mul_le_mul h1 h2 (by decide) (by omega)
    omega
structure Tab where
  name : Str
  key : Nat
  cols : List Col
def Tab.enc (t : Tab) : PyData := .tuple [.str t.name, .int t.key, .tuple (t.cols.map Col.enc)]
theorem cutD_take (xs : List PyData) (k : Nat) : cutD xs none (some (k : Int)) = xs.take k := by
  unfold cutD
  rw [HT.sIx_nat, HT.sIx_none, List.drop_zero, Nat.sub_zero]
  by_cases h : k ≤ xs.length
  · rw [Nat.min_eq_left h]
  · rw [Nat.min_eq_right (by omega), List.take_length, List.take_of_length_le (by omega)]
theorem cutD_drop (xs : List PyData) (k : Nat) : cutD xs (some (k : Int)) none = xs.drop k := by
  unfold cutD
  rw [HT.sIx_nat, HT.sIx_none]
  by_cases h : k ≤ xs.length
  · rw [Nat.min_eq_left h]
    refine List.take_of_length_le ?_
    rw [List.length_drop]
    omega
  · rw [Nat.min_eq_right (by omega), List.drop_length, List.drop_of_length_le (by omega), List.take_nil]
theorem cutD_mid (xs : List PyData) (a b : Nat) : cutD xs (some (a : Int)) (some (b : Int)) = (xs.drop a).take (b - a) := by
  unfold cutD
  rw [HT.sIx_nat, HT.sIx_nat]
  by_cases h : a ≤ xs.length
  · rw [Nat.min_eq_left h]
    by_cases h2 : b ≤ xs.length
    · rw [Nat.min_eq_left h2]
    · rw [Nat.min_eq_right (by omega), List.take_of_length_le (by rw [List.length_drop]; omega), List.take_of_length_le (by rw [List.length_drop]; omega)]
  · rw [Nat.min_eq_right (show xs.length ≤ a by omega), List.drop_length, List.drop_of_length_le (show xs.length ≤ a by omega), List.take_nil, List.take_nil]
/-! ### the law's drawn numbers -/
section
variable {env : En}
theorem ev_andT {ma mb : En → Option Bool} {b : Bool} (h : ma env = some true) (h2 : mb env = some b) : mAndT ma mb env = some b := by
  unfold mAndT
  rw [h, Option.bind_some, if_pos rfl]
  exact h2
theorem ev_andF {ma mb : En → Option Bool} (h : ma env = some false) : mAndT ma mb env = some false := by
  unfold mAndT
  rw [h, Option.bind_some, if_neg Bool.false_ne_true]
theorem ev_orT {ma mb : En → Option Bool} (h : ma env = some true) : mOrT ma mb env = some true := by
  unfold mOrT
  rw [h, Option.bind_some, if_pos rfl]
theorem ev_orF {ma mb : En → Option Bool} {b : Bool} (h : ma env = some false) (h2 : mb env = some b) : mOrT ma mb env = some b := by
  unfold mOrT
  rw [h, Option.bind_some, if_neg Bool.false_ne_true]
  exact h2
theorem ev_notT {ma : En → Option Bool} {b : Bool} (h : ma env = some b) : mNotT ma env = some (!b) := by
  unfold mNotT
  rw [h]
  rfl
end
def Dr (x : Int) : Prop := 0 ≤ x ∧ x < 1000
theorem draws_step {cell many rest st : Int} {fs : List Int} {z : Option PyData} {i : Nat} (hr : 0 ≤ rest) (hs0 : 0 ≤ st) (hs1 : st < 2305843009213693951) (hi : i ≤ 10000) (hf : fs.length ≤ 10000) (hd : ∀ x ∈ fs, Dr x) :
    ∃ (gs : List Int) (rest' st' : Int), lb1_law_draws [some (.int cell), some (.int many), some (.int 1000), some (.list (fs.map .int)), some (.int rest), some (.int st), some (.int (i : Int))] = some (.nx [some (.int cell), some (.int many), some (.int 1000), some (.list (gs.map .int)), some (.int rest'), some (.int st'), some (.int (i : Int))]) ∧
      gs.length = fs.length + (if 2 < i then 1 else 0) ∧ (∀ x ∈ gs, Dr x) ∧ 0 ≤ rest' ∧ 0 ≤ st' ∧ st' < 2305843009213693951 := by
  have hP : (0 : Int) < 2305843009213693951 := by decide
  generalize hst : (st * st + 48271 * st + (i : Int) + 1) % 2305843009213693951 = st2
  have h20 : 0 ≤ st2 := by rw [← hst]; exact Int.emod_nonneg _ (by decide)
  have h21 : st2 < 2305843009213693951 := by rw [← hst]; exact Int.emod_lt_of_pos _ hP
  have e1 : (mBin dMod (mBin dAdd (mBin dAdd (mBin dAdd (mBin dMul (mVar 5) (mVar 5)) (mBin dMul (mC (.int 48271)) (mVar 5))) (mVar 6)) (mC (.int 1))) (mC (.int 2305843009213693951))) [some (.int cell), some (.int many), some (.int 1000), some (.list (fs.map .int)), some (.int rest), some (.int st), some (.int (i : Int))] = some (.int st2) := by
    refine ev_bin (a := .int (st * st + 48271 * st + (i : Int) + 1)) (ev_bin (a := .int (st * st + 48271 * st + (i : Int))) (ev_bin (a := .int (st * st + 48271 * st)) (ev_bin (a := .int (st * st)) (b := .int (48271 * st)) (ev_bin rfl rfl (dMul_int (cmulL (by omega) (by omega)))) (ev_bin rfl rfl (dMul_int (cmulL (by decide) (by decide)))) (dAdd_int _ _)) rfl (dAdd_int _ _)) rfl (dAdd_int _ _)) rfl ?_
    rw [dMod_int hP, hst]
  have app : ∀ {e1 : En} {x : Int}, Dr x → ∀ y ∈ fs ++ [x], Dr y := fun hx y hy => by
    rcases List.mem_append.mp hy with h | h
    · exact hd y h
    · rw [List.mem_singleton.mp h]
      exact hx
  have lz : (fs.map PyData.int).length < sizeLine := line_lt (by rw [List.length_map]; omega)
  have am : ∀ x : Int, fs.map PyData.int ++ [.int x] = (fs ++ [x]).map PyData.int := fun x => by rw [List.map_append]; rfl
  unfold lb1_law_draws
  by_cases h2 : 2 < i
  · have t2 : (mTst (mBin dGt (mVar 6) (mC (.int 2)))) [some (.int cell), some (.int many), some (.int 1000), some (.list (fs.map .int)), some (.int rest), some (.int st2), some (.int (i : Int))] = some true := by
      refine ev_tst (ev_bin rfl rfl ?_)
      rw [dGt_int, decide_eq_true (by omega)]
    by_cases h3 : 0 < rest
    · refine ⟨fs ++ [rest % 1000], rest / 1000, st2, ?_, by rw [if_pos h2, List.length_append]; rfl, app (e1 := []) ⟨Int.emod_nonneg _ (by decide), Int.emod_lt_of_pos _ (by decide)⟩, Int.ediv_nonneg hr (by decide), h20, h21⟩
      refine ev_set e1 ?_
      refine ev_if1T (ev_andT t2 (ev_tst (ev_bin rfl rfl ?_))) ?_
      · rw [dGt_int, decide_eq_true h3]
      · refine ev_seq (ev_app (ds := fs.map .int) (d := .int (rest % 1000)) rfl (ev_bin rfl rfl (dMod_int (by decide))) lz) ?_
        refine ev_set1 (d := .int (rest / 1000)) (ev_bin rfl rfl (dDiv_int (cdivS (by decide) (by decide)))) ?_
        rw [am]
        rfl
    · refine ⟨fs ++ [st2 / 4096 % 1000], rest, st2, ?_, by rw [if_pos h2, List.length_append]; rfl, app (e1 := []) ⟨Int.emod_nonneg _ (by decide), Int.emod_lt_of_pos _ (by decide)⟩, hr, h20, h21⟩
      refine ev_set e1 ?_
      refine ev_if1F (ev_andT t2 (ev_tst (ev_bin rfl rfl ?_))) ?_
      · rw [dGt_int, decide_eq_false h3]
      · refine ev_if1T t2 ?_
        rw [ev_app (ds := fs.map .int) (d := .int (st2 / 4096 % 1000)) rfl (ev_bin (ev_bin rfl rfl (dDiv_int (cdivS (by decide) (by decide)))) rfl (dMod_int (by decide))) lz, am]
        rfl
  · have t2 : (mTst (mBin dGt (mVar 6) (mC (.int 2)))) [some (.int cell), some (.int many), some (.int 1000), some (.list (fs.map .int)), some (.int rest), some (.int st2), some (.int (i : Int))] = some false := by
      refine ev_tst (ev_bin rfl rfl ?_)
      rw [dGt_int, decide_eq_false (by omega)]
    refine ⟨fs, rest, st2, ?_, by rw [if_neg h2]; rfl, hd, hr, h20, h21⟩
    refine ev_set e1 ?_
    refine ev_if1F (ev_andF t2) (ev_if1F t2 rfl)
theorem draws_eq (cell : Int) (many : Nat) (hm : many ≤ 5000) : ∃ ns : List Int, fm_law_draws [.int cell, .int many, .int 1000] = some (.list (ns.map .int)) ∧ ns.length = many ∧ ∀ x ∈ ns, Dr x := by
  generalize hr : cell * (if (1000000000000000000 : Int) ≤ cell then 1 else 0) = rest
  have hr0 : 0 ≤ rest := by
    rw [← hr]
    split
    · omega
    · omega
  have loop : ∃ e', loopD (gB 6) lb1_law_draws (rangeD 0 (many + 3)) [some (.int cell), some (.int many), some (.int 1000), some (.list []), some (.int rest), some (.int (cell % 2305843009213693951)), none] = some (.nx e') ∧
      ∃ (fs : List Int) (rest st : Int) (z : Option PyData), e' = [some (.int cell), some (.int many), some (.int 1000), some (.list (fs.map .int)), some (.int rest), some (.int st), z] ∧ fs.length = many + 3 - 3 ∧ (∀ x ∈ fs, Dr x) ∧ 0 ≤ rest ∧ 0 ≤ st ∧ st < 2305843009213693951 := by
    refine loop_range (fun i e => ∃ (fs : List Int) (rest st : Int) (z : Option PyData), e = [some (.int cell), some (.int many), some (.int 1000), some (.list (fs.map .int)), some (.int rest), some (.int st), z] ∧ fs.length = i - 3 ∧ (∀ x ∈ fs, Dr x) ∧ 0 ≤ rest ∧ 0 ≤ st ∧ st < 2305843009213693951)
      ⟨[], rest, _, none, rfl, rfl, (fun _ h => absurd h (by simp)), hr0, Int.emod_nonneg _ (by decide), Int.emod_lt_of_pos _ (by decide)⟩ fun i e hi he => ?_
    obtain ⟨fs, rs, st, z, rfl, h1, h2, h3, h4, h5⟩ := he
    obtain ⟨gs, rs', st', g1, g2, g3, g4, g5, g6⟩ := draws_step (cell := cell) (many := many) (z := z) h3 h4 h5 (i := i) (by omega) (by omega) h2
    refine ⟨_, _, rfl, .inl ?_, gs, rs', st', some (.int (i : Int)), rfl, ?_, g3, g4, g5, g6⟩
    · rw [Int.zero_add]
      exact g1
    · rw [g2, h1]
      split <;> omega
  obtain ⟨e', h1, fs, rs, st, z, rfl, h2, h3, _⟩ := loop
  refine ⟨fs, ?_, by omega, h3⟩
  unfold fm_law_draws mb_law_draws
  refine ev_run (d := .list (fs.map .int)) ?_ rfl
  refine ev_set (d := .list []) (ev_lst rfl (Nat.zero_le _)) ?_
  refine ev_set (d := .int rest) (ev_bin (a := .int cell) (b := .int (if (1000000000000000000 : Int) ≤ cell then 1 else 0)) rfl (ev_cb (ds := [.bool (decide ((1000000000000000000 : Int) ≤ cell))]) (ev_cons (ev_bin (b := .int 1000000000000000000) rfl (ev_bin rfl rfl ?_) (dGe_int _ _)) rfl) ?_) ?_) ?_
  · show (if CPow 10 18 then some (PyData.int ((10 : Int) ^ (18 : Int).toNat)) else none) = _
    rw [if_pos (show CPow 10 18 from ⟨by decide, by decide, by decide⟩), show ((10 : Int) ^ (18 : Int).toNat) = 1000000000000000000 by decide]
  · show some (PyData.int (if decide ((1000000000000000000 : Int) ≤ cell) = true then 1 else 0)) = _
    by_cases h : (1000000000000000000 : Int) ≤ cell
    · rw [decide_eq_true h, if_pos rfl, if_pos h]
    · rw [decide_eq_false h, if_neg Bool.false_ne_true, if_neg h]
  · rw [dMul_int (cmulR (by split <;> decide) (by split <;> decide)), hr]
  refine ev_set (d := .int (cell % 2305843009213693951)) (ev_bin rfl rfl (dMod_int (by decide))) ?_
  refine ev_for (ds := rangeD 0 (many + 3)) ?_ h1 (ev_ret rfl)
  refine ev_rng (ev_cons (ev_bin rfl rfl (dAdd_int _ _)) rfl) ?_
  rw [rng1_ok (by omega) (by omega)]
  congr 2
/-! ### names -/
def mkS (cs : List Nat) : Str := ⟨cs.toArray⟩
theorem mkS_app (a b : List Nat) : mkS a ++ mkS b = mkS (a ++ b) := by
  show (⟨a.toArray ++ b.toArray⟩ : Str) = ⟨(a ++ b).toArray⟩
  rw [List.append_toArray]
theorem mkS_len (a : List Nat) : (mkS a).length = a.length := by
  show a.toArray.size = _
  rw [List.size_toArray]
theorem mkS_cps (a : List Nat) : (mkS a).cps.toList = a := rfl
theorem mkS_inj {a b : List Nat} (h : mkS a = mkS b) : a = b := by
  have : (mkS a).cps.toList = (mkS b).cps.toList := by rw [h]
  exact this
theorem cutS_mk (a : List Nat) (k : Nat) : cutS (mkS a) none (some (k : Int)) = mkS (a.take k) := by
  unfold cutS
  rw [HT.sIx_nat, HT.sIx_none, mkS_len]
  show mkS ((a.drop 0).take (min k a.length - 0)) = _
  rw [List.drop_zero, Nat.sub_zero]
  by_cases h : k ≤ a.length
  · rw [Nat.min_eq_left h]
  · rw [Nat.min_eq_right (by omega), List.take_length, List.take_of_length_le (by omega)]
def barL : List Str := ["rows", "view", "where", "keep", "named", "pairs", "both", "less", "count", "seal", "and", "or", "not", "mine", "empty", "loud", "yes", "has"]
def Lc (c : Nat) : Prop := 97 ≤ c ∧ c ≤ 122
structure NmOk (w : Str) : Prop where
  cs : ∃ cs : List Nat, w = mkS cs ∧ 1 ≤ cs.length ∧ cs.length ≤ 8 ∧ ∀ c ∈ cs, Lc c
  free : w ∉ barL
theorem shaped_str {cs : List Nat} (h : ∀ c ∈ cs, Lc c) : SeqAt.shaped (.str (mkS cs)) = true := by
  unfold SeqAt.shaped
  rw [Bool.and_eq_true]
  refine ⟨?_, rfl⟩
  show PySem.PyData.strOk (mkS cs) = true
  unfold PySem.PyData.strOk mkS
  rw [List.all_toArray, List.all_eq_true]
  intro c hc
  have := h c hc
  unfold Lc at this
  refine decide_eq_true ?_
  omega
theorem NmOk.shaped {w : Str} (h : NmOk w) : SeqAt.shaped (.str w) = true := by
  obtain ⟨cs, rfl, _, _, h4⟩ := h.cs
  exact shaped_str h4
theorem shaped_strs : ∀ {ws : List Str}, (∀ w ∈ ws, SeqAt.shaped (.str w) = true) → SeqAt.shaped (.list (ws.map .str)) = true := fun {ws} h => by
  unfold SeqAt.shaped
  rw [Bool.and_eq_true]
  have h1 : PyData.canLayAll0 (ws.map .str) = true := by
    induction ws with
    | nil => simp [PyData.canLayAll0]
    | cons w ws ih =>
      rw [List.map_cons, PyData.canLayAll0, Bool.and_eq_true]
      refine ⟨?_, ih fun x hx => h x (List.mem_cons_of_mem _ hx)⟩
      have := h w List.mem_cons_self
      unfold SeqAt.shaped at this
      rw [Bool.and_eq_true] at this
      exact this.1
  have h2 : PyData.depthAll (ws.map .str) = 0 := by
    clear h h1
    induction ws with
    | nil => simp [PyData.depthAll]
    | cons w ws ih =>
      rw [List.map_cons, PyData.depthAll, ih]
      simp [PyData.depth]
  refine ⟨by rw [PyData.canLay0]; exact h1, ?_⟩
  rw [PyData.depth, h2]
  rfl
theorem dIn_strs {neg : Bool} {w : Str} {ws : List Str} (h1 : SeqAt.shaped (.str w) = true) (h2 : ∀ x ∈ ws, SeqAt.shaped (.str x) = true) : dIn neg (.str w) (.list (ws.map .str)) = some (.bool (xor neg (decide (w ∈ ws)))) := by
  have e : (ws.map PyData.str).any (fun z => PyData.eqv z (.str w)) = decide (w ∈ ws) := by
    rw [List.any_map]
    clear h1 h2
    induction ws with
    | nil => simp
    | cons x ws ih =>
      rw [List.any_cons, ih]
      show (PyData.eqv (.str x) (.str w) || decide (w ∈ ws)) = decide (w ∈ x :: ws)
      rw [PyData.eqv]
      by_cases z : x = w
      · subst z
        simp
      · have z' : ¬ w = x := fun q => z q.symm
        simp [z, z']
  show (if SeqAt.shaped (.str w) = true ∧ SeqAt.shaped (.list (ws.map .str)) = true then some (PyData.bool (xor neg ((ws.map PyData.str).any fun z => PyData.eqv z (.str w)))) else none) = _
  rw [if_pos ⟨h1, shaped_strs h2⟩, e]
theorem codesL : (Str.ofString "abcdefghijklmnopqrstuvwxyz").cps.toList = (List.range 26).map (97 + ·) := by decide +kernel
theorem lenL : (Str.ofString "abcdefghijklmnopqrstuvwxyz").length ≤ sizeLine := by decide +kernel
theorem dIx_letters {j : Nat} (h : j < 26) : dIx (.str "abcdefghijklmnopqrstuvwxyz") (.int (j : Int)) = some (.str (mkS [97 + j])) := by
  show (if (Str.ofString "abcdefghijklmnopqrstuvwxyz").length ≤ sizeLine then (atI (Str.ofString "abcdefghijklmnopqrstuvwxyz").cps.toList (j : Int)).map fun c => PyData.str ⟨#[c]⟩ else none) = _
  rw [if_pos lenL, codesL, atI_nat (v := 97 + j) (by rw [List.getElem?_map, List.getElem?_range h]; rfl)]
  rfl
theorem dAdd_str {a b : List Nat} (h : a.length + b.length ≤ 1000) : dAdd (.str (mkS a)) (.str (mkS b)) = some (.str (mkS (a ++ b))) := by
  show (if (mkS a).length + (mkS b).length ≤ sizeLine then some (PyData.str (mkS a ++ mkS b)) else none) = _
  rw [if_pos (by rw [mkS_len, mkS_len]; exact line_big (by omega)), mkS_app]
theorem dAdd_list {xs ys : List PyData} (h : xs.length + ys.length ≤ 100000) : dAdd (.list xs) (.list ys) = some (.list (xs ++ ys)) := if_pos (line_big h)
theorem dIx_zero (x : PyData) (xs : List PyData) : dIx (.list (x :: xs)) (.int 0) = some x := by
  show atI (x :: xs) ((0 : Nat) : Int) = _
  exact atI_nat rfl
theorem barZ : ∀ b ∈ barL, b.cps.toList.getLast? ≠ some 122 := by decide +kernel
theorem barShape : ∀ b ∈ barL, SeqAt.shaped (.str b) = true := by
  intro b hb
  have : PySem.PyData.strOk b = true := by
    revert b
    decide +kernel
  unfold SeqAt.shaped
  rw [Bool.and_eq_true]
  exact ⟨this, rfl⟩
theorem nodup_sub {α : Type} [DecidableEq α] : ∀ {as bs : List α}, as.Nodup → (∀ a ∈ as, a ∈ bs) → as.length ≤ bs.length
  | [], bs, _, _ => Nat.zero_le bs.length
  | a :: as, bs, hn, hs => by
    have h1 := List.nodup_cons.mp hn
    have ha := hs a List.mem_cons_self
    have := nodup_sub (as := as) (bs := bs.erase a) h1.2 fun x hx => (List.mem_erase_of_ne fun (e : x = a) => h1.1 (by rw [← e]; exact hx)).mpr (hs x (List.mem_cons_of_mem _ hx))
    rw [List.length_erase_of_mem ha] at this
    have hp : 0 < bs.length := List.length_pos_of_mem ha
    rw [List.length_cons]
    omega
def cands (cs : List Nat) : List Str := mkS cs :: (List.range 26).map fun j => mkS (cs.take 6 ++ [97 + j] ++ [122])
theorem cands_name {cs : List Nat} (h1 : 1 ≤ cs.length) (h2 : cs.length ≤ 8) (h3 : ∀ c ∈ cs, Lc c) : ∀ w ∈ cands cs, ∃ ds : List Nat, w = mkS ds ∧ 1 ≤ ds.length ∧ ds.length ≤ 8 ∧ ∀ c ∈ ds, Lc c := fun w hw => by
  rcases List.mem_cons.mp hw with rfl | hw
  · exact ⟨cs, rfl, h1, h2, h3⟩
  · obtain ⟨j, hj, rfl⟩ := List.mem_map.mp hw
    have hj := List.mem_range.mp hj
    refine ⟨_, rfl, ?_, ?_, fun c hc => ?_⟩
    · simp
    · simp
      omega
    · rcases List.mem_append.mp hc with hc | hc
      · rcases List.mem_append.mp hc with hc | hc
        · exact h3 c (List.mem_of_mem_take hc)
        · rw [List.mem_singleton.mp hc]
          unfold Lc
          omega
      · rw [List.mem_singleton.mp hc]
        unfold Lc
        omega
theorem cands_free {cs : List Nat} {taken : List Str} (hl : taken.length ≤ 20) : ∃ w ∈ cands cs, w ∉ taken ∧ w ∉ barL := by
  by_cases h : ∃ w ∈ cands cs, w ∉ taken ∧ w ∉ barL
  · exact h
  · have hall : ∀ w ∈ (List.range 26).map fun j => mkS (cs.take 6 ++ [97 + j] ++ [122]), w ∈ taken := fun w hw => by
      by_cases z : w ∈ taken
      · exact z
      · refine absurd ⟨w, List.mem_cons_of_mem _ hw, z, fun hb => ?_⟩ h
        obtain ⟨j, _, rfl⟩ := List.mem_map.mp hw
        refine barZ _ hb ?_
        rw [mkS_cps, List.getLast?_append]
        rfl
    have hn : ((List.range 26).map fun j => mkS (cs.take 6 ++ [97 + j] ++ [122])).Nodup := by
      rw [List.nodup_iff_pairwise_ne, List.pairwise_map]
      refine List.Pairwise.imp (R := fun (a b : Nat) => a ≠ b) (S := fun a b => mkS (cs.take 6 ++ [97 + a] ++ [122]) ≠ mkS (cs.take 6 ++ [97 + b] ++ [122])) (fun {a b} hab => fun e => hab ?_) (List.nodup_iff_pairwise_ne.mp List.nodup_range)
      have e1 := mkS_inj e
      have e2 := List.append_cancel_right e1
      have e3 := List.append_cancel_left e2
      have e4 : 97 + a = 97 + b := by
        injection e3
      omega
    have := nodup_sub hn hall
    rw [List.length_map, List.length_range] at this
    omega
theorem splitB : Txt.split "rows view where keep named pairs both less count seal and or not mine empty loud yes has" " " = barL := by decide +kernel
theorem pick_get {some5 : List Int} {k : Nat} (h : k < some5.length) : dIx (.list (some5.map .int)) (.int (k : Int)) = some (.int (some5.getD k 0)) := by
  show atI _ _ = _
  refine atI_nat ?_
  simp only [List.getElem?_map, List.getD_eq_getElem?_getD, List.getElem?_eq_getElem h]
  rfl
theorem name_eq {ps : List Int} {taken : List Str} (hp : 5 ≤ ps.length) (ht : ∀ t ∈ taken, SeqAt.shaped (.str t) = true) (hl : taken.length ≤ 20) :
    ∃ w : Str, fm_law_name [.list (ps.map .int), .list (taken.map .str)] = some (.str w) ∧ NmOk w ∧ w ∉ taken := by
  generalize hn : (1 + ps.getD 0 0 % 8) = n
  have hn1 : 1 ≤ n ∧ n ≤ 8 := by
    have h1 := Int.emod_nonneg (ps.getD 0 0) (show (8 : Int) ≠ 0 by decide)
    have h2 := Int.emod_lt_of_pos (ps.getD 0 0) (show (0 : Int) < 8 by decide)
    omega
  have loop : ∀ size0 : Int, ∃ e', loopD (gB 5) lb1_law_name (rangeD 0 n.toNat) [some (.list (ps.map .int)), some (.list (taken.map .str)), some (.str "abcdefghijklmnopqrstuvwxyz"), some (.int size0), some (.str ""), none, none, none, none, none] = some (.nx e') ∧
      ∃ (cs : List Nat) (size : Int) (z : Option PyData), e' = [some (.list (ps.map .int)), some (.list (taken.map .str)), some (.str "abcdefghijklmnopqrstuvwxyz"), some (.int size), some (.str (mkS cs)), z, none, none, none, none] ∧ cs.length = n.toNat ∧ ∀ c ∈ cs, Lc c := by
    intro size0
    refine loop_range (fun i e => ∃ (cs : List Nat) (size : Int) (z : Option PyData), e = [some (.list (ps.map .int)), some (.list (taken.map .str)), some (.str "abcdefghijklmnopqrstuvwxyz"), some (.int size), some (.str (mkS cs)), z, none, none, none, none] ∧ cs.length = i ∧ ∀ c ∈ cs, Lc c)
      ⟨[], size0, none, rfl, rfl, fun _ h => absurd h (by simp)⟩ fun i e hi he => ?_
    obtain ⟨cs, size, z, rfl, h1, h2⟩ := he
    have j0 := Int.emod_nonneg size (show (26 : Int) ≠ 0 by decide)
    have j1 := Int.emod_lt_of_pos size (show (0 : Int) < 26 by decide)
    generalize hj : (size % 26).toNat = j
    have ej : size % 26 = (j : Int) := by omega
    refine ⟨_, _, rfl, .inl ?_, cs ++ [97 + j], size / 26, some (.int (0 + (i : Int))), rfl, by rw [List.length_append, h1]; rfl, fun c hc => ?_⟩
    · unfold lb1_law_name
      refine ev_set (d := .str (mkS (cs ++ [97 + j]))) (ev_bin (a := .str (mkS cs)) (b := .str (mkS [97 + j])) rfl (ev_bin (b := .int (j : Int)) rfl (ev_bin rfl rfl ?_) (dIx_letters (by omega))) (dAdd_str (by rw [h1]; simp; omega))) ?_
      · rw [dMod_int (by decide), ej]
      · exact ev_set1 (d := .int (size / 26)) (ev_bin rfl rfl (dDiv_int (cdivS (by decide) (by decide)))) rfl
    · rcases List.mem_append.mp hc with hc | hc
      · exact h2 c hc
      · rw [List.mem_singleton.mp hc]
        unfold Lc
        omega
  generalize hsz : (((ps.getD 1 0 * 1000 + ps.getD 2 0) * 1000 + ps.getD 3 0) * 1000 + ps.getD 4 0) = size0
  obtain ⟨e', h1, cs, size, z, rfl, h2, h3⟩ := loop size0
  have hc1 : 1 ≤ cs.length := by omega
  have hc2 : cs.length ≤ 8 := by omega
  have hcn := cands_name hc1 hc2 h3
  have hsh : ∀ w ∈ cands cs, SeqAt.shaped (.str w) = true := fun w hw => by
    obtain ⟨ds, rfl, _, _, h⟩ := hcn w hw
    exact shaped_str h
  have hfil : ∃ w r, ((cands cs).filter fun w => decide (w ∉ taken) && decide (w ∉ barL)) = w :: r := by
    obtain ⟨w, hw, h4, h5⟩ := cands_free (cs := cs) hl
    cases hf : ((cands cs).filter fun w => decide (w ∉ taken) && decide (w ∉ barL)) with
    | nil =>
      have := List.filter_eq_nil_iff.mp hf w hw
      simp [h4, h5] at this
    | cons w r => exact ⟨w, r, rfl⟩
  obtain ⟨w, r, hw⟩ := hfil
  have hwm : w ∈ (cands cs).filter fun w => decide (w ∉ taken) && decide (w ∉ barL) := by
    rw [hw]
    exact List.mem_cons_self
  obtain ⟨hwc, hwp⟩ := List.mem_filter.mp hwm
  simp only [Bool.and_eq_true, decide_eq_true_eq] at hwp
  refine ⟨w, ?_, ⟨hcn w hwc, hwp.2⟩, hwp.1⟩
  unfold fm_law_name mb_law_name
  refine ev_run (d := .str w) ?_ rfl
  refine ev_set (d := .str "abcdefghijklmnopqrstuvwxyz") rfl ?_
  refine ev_set (d := .int size0) ?_ ?_
  · refine ev_bin (ev_bin (ev_bin (ev_bin (ev_bin (ev_bin (ev_bin rfl rfl (pick_get (k := 1) (by omega))) rfl (dMul_int (cmulR (by decide) (by decide)))) (ev_bin rfl rfl (pick_get (k := 2) (by omega))) (dAdd_int _ _)) rfl (dMul_int (cmulR (by decide) (by decide)))) (ev_bin rfl rfl (pick_get (k := 3) (by omega))) (dAdd_int _ _)) rfl (dMul_int (cmulR (by decide) (by decide)))) (ev_bin rfl rfl (pick_get (k := 4) (by omega))) ?_
    rw [dAdd_int, hsz]
  refine ev_set (d := .str "") rfl ?_
  refine ev_for (ds := rangeD 0 n.toNat) ?_ h1 ?_
  · refine ev_rng (ev_cons (ev_bin rfl (ev_bin (ev_bin rfl rfl (pick_get (k := 0) (by omega))) rfl (dMod_int (by decide))) (dAdd_int _ _)) rfl) ?_
    rw [rng1_ok (by omega) (by omega), hn]
  refine ev_set (d := .str "rows view where keep named pairs both less count seal and or not mine empty loud yes has") rfl ?_
  refine ev_set (d := .list ((cands cs).map .str)) ?_ ?_
  · refine ev_bin (a := .list [.str (mkS cs)]) (b := .list (((List.range 26).map fun j => mkS (cs.take 6 ++ [97 + j] ++ [122])).map .str)) (ev_lst rfl (show 1 ≤ sizeLine by decide)) ?_ ?_
    · refine ev_lc (ds := ((List.range 26).map (97 + ·)).map fun c => .str ⟨#[c]⟩) ?_ (es := ((List.range 26).map fun j => mkS (cs.take 6 ++ [97 + j] ++ [122])).map .str) ?_ ?_
      · refine ev_it (d := .str "abcdefghijklmnopqrstuvwxyz") rfl ?_
        show some (List.map _ (Str.ofString "abcdefghijklmnopqrstuvwxyz").cps.toList) = _
        rw [codesL]
      · refine (lc_map (f := fun d => match d with | .str x => .str (mkS (cs.take 6 ++ x.cps.toList ++ [122])) | d => d) fun d hd => ?_).trans ?_
        · obtain ⟨c, hc, rfl⟩ := List.mem_map.mp hd
          refine ⟨_, rfl, rfl, ?_⟩
          unfold le2_law_name
          show mBin dAdd (mBin dAdd _ _) _ _ = some (.str (mkS (cs.take 6 ++ [c] ++ [122])))
          have l6 : (cs.take 6).length ≤ 6 := by rw [List.length_take]; omega
          refine ev_bin (a := .str (mkS (cs.take 6 ++ [c]))) (b := .str (mkS [122])) (ev_bin (a := .str (mkS (cs.take 6))) (b := .str (mkS [c])) (ev_sl (lo := none) (hi := some 6) rfl rfl (ev_part rfl) ?_) rfl (dAdd_str (by simp; omega))) rfl (dAdd_str (by simp; omega))
          show (if (mkS cs).length ≤ sizeLine then some (PyData.str (cutS (mkS cs) none (some 6))) else none) = _
          rw [if_pos (by rw [mkS_len]; exact line_big (by omega)), show (some (6 : Int)) = some ((6 : Nat) : Int) from rfl, cutS_mk]
        · rw [List.map_map, List.map_map, List.map_map]
          rfl
      · rw [List.length_map, List.length_map, List.length_range]
        decide
    · rw [dAdd_list (by rw [List.length_map, List.length_map, List.length_range]; show 1 + 26 ≤ 100000; decide)]
      rfl
  refine ev_ret ?_
  refine ev_bin (a := .list ((w :: r).map .str)) (b := .int 0) ?_ rfl (dIx_zero _ _)
  refine ev_lc (ds := (cands cs).map .str) rfl (es := (w :: r).map .str) ?_ ?_
  · refine (lc_filter (f := id) (p := fun d => match d with | .str x => decide (x ∉ taken) && decide (x ∉ barL) | _ => false) fun d hd => ?_).trans ?_
    · obtain ⟨x, hx, rfl⟩ := List.mem_map.mp hd
      refine ⟨_, rfl, ?_, ?_⟩
      · unfold lt1_law_name
        have t1 : (mTst (mBin (dIn true) (mVar 9) (mVar 1))) ([some (.list (ps.map .int)), some (.list (taken.map .str)), some (.str "abcdefghijklmnopqrstuvwxyz"), some (.int size), some (.str (mkS cs)), z, some (.str "rows view where keep named pairs both less count seal and or not mine empty loud yes has"), some (.list ((cands cs).map .str)), none, some (.str x)]) = some (!decide (x ∈ taken)) := by
          refine ev_tst (ev_bin rfl rfl ?_)
          rw [dIn_strs (hsh x hx) ht, Bool.true_xor]
        have t2 : (mTst (mBin (dIn true) (mVar 9) (mSplit (mVar 6) (mC (.str " "))))) ([some (.list (ps.map .int)), some (.list (taken.map .str)), some (.str "abcdefghijklmnopqrstuvwxyz"), some (.int size), some (.str (mkS cs)), z, some (.str "rows view where keep named pairs both less count seal and or not mine empty loud yes has"), some (.list ((cands cs).map .str)), none, some (.str x)]) = some (!decide (x ∈ barL)) := by
          refine ev_tst (ev_bin (b := .list (barL.map .str)) rfl ?_ ?_)
          · show (if ((Str.ofString " ").length == 0) = false ∧ (Str.ofString "rows view where keep named pairs both less count seal and or not mine empty loud yes has").length + 2 ≤ sizeLine then some (PyData.list ((Txt.split "rows view where keep named pairs both less count seal and or not mine empty loud yes has" " ").map .str)) else none) = _
            rw [if_pos (by decide +kernel), splitB]
          · rw [dIn_strs (hsh x hx) barShape, Bool.true_xor]
        show mAndT _ _ _ = some (decide (x ∉ taken) && decide (x ∉ barL))
        by_cases hxt : x ∈ taken
        · have e1 : decide (x ∉ taken) = false := decide_eq_false fun q => q hxt
          rw [e1, Bool.false_and]
          refine ev_andF (t1.trans ?_)
          rw [decide_eq_true hxt]
          rfl
        · have e1 : decide (x ∉ taken) = true := decide_eq_true hxt
          rw [e1, Bool.true_and]
          refine ev_andT (t1.trans ?_) (t2.trans ?_)
          · rw [decide_eq_false hxt]
            rfl
          · rw [decide_not]
      · unfold le1_law_name
        rfl
    · rw [List.map_id, List.filter_map]
      show some (((cands cs).filter fun w => decide (w ∉ taken) && decide (w ∉ barL)).map PyData.str) = _
      rw [hw]
  · have : (w :: r).length ≤ (cands cs).length := by
      rw [← hw]
      exact List.length_filter_le _ _
    rw [List.length_map]
    refine Nat.le_trans this (line_big ?_)
    unfold cands
    rw [List.length_cons, List.length_map, List.length_range]
    decide
/-! ### columns -/
theorem ev_orV {ma mb : En → Option PyData} {env : En} {a b : Bool} (h : ma env = some (.bool a)) (h2 : mb env = some (.bool b)) : mOr ma mb env = some (.bool (a || b)) := by
  unfold mOr
  rw [h, Option.bind_some]
  show (some a).bind _ = _
  rw [Option.bind_some]
  cases a with
  | true => rfl
  | false => exact h2
theorem ev_andV {ma mb : En → Option PyData} {env : En} {a b : Bool} (h : ma env = some (.bool a)) (h2 : mb env = some (.bool b)) : mAnd ma mb env = some (.bool (a && b)) := by
  unfold mAnd
  rw [h, Option.bind_some]
  show (some a).bind _ = _
  rw [Option.bind_some]
  cases a with
  | true => exact h2
  | false => rfl
theorem bInt_bool (b : Bool) : bInt [.bool b] = some (.int (b2 b)) := by cases b <;> rfl
theorem slice_ints {ps : List Int} {a b : Nat} {lo hi : Int} (h1 : lo = (a : Int)) (h2 : hi = (b : Int)) : dSl (.list (ps.map .int)) (some lo) (some hi) = some (.list (((ps.drop a).take (b - a)).map .int)) := by
  subst h1 h2
  show some (PyData.list (cutD _ _ _)) = _
  rw [cutD_mid, List.map_take, List.map_drop]
theorem slice_ints_from {ps : List Int} {a : Nat} {lo : Int} (h1 : lo = (a : Int)) : dSl (.list (ps.map .int)) (some lo) none = some (.list ((ps.drop a).map .int)) := by
  subst h1
  show some (PyData.list (cutD _ _ _)) = _
  rw [cutD_drop, List.map_drop]
def ColsOk (cs : List Col) : Prop := (∀ c ∈ cs, c.Ok ∧ NmOk c.name) ∧ (cs.map Col.name).Nodup
theorem cols_names {cs : List Col} {env : En} {vs : List Nat} {lb : En → Option PyData} {i j : Nat} (hm : mVar i env = some (.list (cs.map Col.enc))) (hz : cs.length ≤ 1000) (he : ∀ c : Col, lb ((wipeD env vs).set j (some c.enc)) = some (.str c.name)) : mLc vs (mIt (mVar i)) (gB j) mYes lb env = some (.list ((cs.map Col.name).map .str)) := by
  refine ev_lc (ds := cs.map Col.enc) (ev_it hm rfl) (es := (cs.map Col.name).map .str) ?_ (by rw [List.length_map, List.length_map]; exact line_big (by omega))
  refine (lc_map (f := fun d => match d with | .tuple (x :: _) => x | d => d) fun d hd => ?_).trans ?_
  · obtain ⟨c, hc, rfl⟩ := List.mem_map.mp hd
    exact ⟨_, gB_ap _ _ _, rfl, he c⟩
  · rw [List.map_map, List.map_map]
    rfl
theorem columns_step {ps : List Int} {many : Nat} {top : Int} {cs : List Col} {z6 z7 z8 : Option PyData} {k : Nat} (hk : k < many) (hp : 7 * many ≤ ps.length) (hd : ∀ x ∈ ps, Dr x) (ht : top ≤ 100000) (hc : ColsOk cs) (hl : cs.length = k) (hk4 : many ≤ 8) (hr : prodM cs ≤ top) :
    ∃ (c : Col) (y6 y7 y8 : Option PyData), lb1_law_columns [some (.list (ps.map .int)), some (.int many), some (.int top), some (.list (cs.map Col.enc)), some (.int (prodM cs)), some (.int (k : Int)), z6, z7, z8, none] = some (.nx [some (.list (ps.map .int)), some (.int many), some (.int top), some (.list ((cs ++ [c]).map Col.enc)), some (.int (prodM (cs ++ [c]))), some (.int (k : Int)), y6, y7, y8, none]) ∧ ColsOk (cs ++ [c]) ∧ prodM (cs ++ [c]) ≤ top := by
  have hpos := prodM_pos (cs := cs) fun c h => (hc.1 c h).1
  generalize hs : (ps.drop (7 * k)).take (7 * k + 7 - 7 * k) = so
  have sl : so.length = 7 := by
    rw [← hs, List.length_take, List.length_drop]
    omega
  have s6 : Dr (so.getD 6 0) := by
    rw [List.getD_eq_getElem?_getD, List.getElem?_eq_getElem (by omega : 6 < so.length)]
    refine hd _ (List.mem_of_mem_drop (i := 7 * k) (List.mem_of_mem_take (i := 7 * k + 7 - 7 * k) ?_))
    rw [hs]
    exact List.getElem_mem _
  have hq : 1 ≤ top / prodM cs := by
    have := (Int.le_ediv_iff_mul_le (show 0 < prodM cs by omega)).mpr (show 1 * prodM cs ≤ top by omega)
    exact this
  have hql : top / prodM cs ≤ 100000 := by
    have := Int.ediv_le_self top (show 0 ≤ prodM cs by omega) |> fun h => h
    by_cases h0 : 0 ≤ top
    · exact Int.le_trans (Int.ediv_le_self _ h0) ht
    · omega
  generalize hm : (if top / prodM cs < 10 then top / prodM cs else 10) = mn
  have hmn : 1 ≤ mn ∧ mn ≤ 10 ∧ mn ≤ top / prodM cs := by
    rw [← hm]
    split <;> omega
  generalize hv : 1 + so.getD 5 0 % mn = v
  have hv1 : 1 ≤ v ∧ v ≤ mn := by
    have h1 := Int.emod_nonneg (so.getD 5 0) (show mn ≠ 0 by omega)
    have h2 := Int.emod_lt_of_pos (so.getD 5 0) (show 0 < mn by omega)
    omega
  generalize ho : ((v == 10) || (decide (1 < v) && (so.getD 6 0 % 3 == 0))) = o
  have hov : (o = true → 2 ≤ v) ∧ (v = 10 → o = true) := by
    rw [← ho]
    constructor
    · intro h
      rcases Bool.or_eq_true_iff.mp h with ten | h
      · have h := ten
        have : v = 10 := by simpa using h
        omega
      · have := (Bool.and_eq_true_iff.mp h).1
        have : 1 < v := by simpa using this
        omega
    · intro h
      rw [h]
      rfl
  have hb : v - b2 o + b2 o = v := by omega
  have hsz : 1 ≤ v - b2 o ∧ v - b2 o ≤ 9 := by
    cases o with
    | true =>
      have := hov.1 rfl
      show 1 ≤ v - 1 ∧ v - 1 ≤ 9
      omega
    | false =>
      have : v ≠ 10 := fun h => Bool.noConfusion (hov.2 h)
      show 1 ≤ v - 0 ∧ v - 0 ≤ 9
      omega
  obtain ⟨w, hw1, hw2, hw3⟩ := name_eq (ps := so) (taken := cs.map Col.name) (by omega) (fun t h => by
    obtain ⟨c, hcm, rfl⟩ := List.mem_map.mp h
    exact (hc.1 c hcm).2.shaped) (by rw [List.length_map]; omega)
  have hcm : Col.many ⟨w, v - b2 o, o⟩ = v := hb
  have hpr : prodM (cs ++ [⟨w, v - b2 o, o⟩]) = prodM cs * v := by
    rw [prodM_app]
    show prodM cs * (Col.many ⟨w, v - b2 o, o⟩ * 1) = _
    rw [hcm, Int.mul_one]
  have hfit : prodM cs * v ≤ top := by
    have h1 : prodM cs * v ≤ prodM cs * (top / prodM cs) := Int.mul_le_mul_of_nonneg_left (by omega) (by omega)
    have h2 : prodM cs * (top / prodM cs) ≤ top := Int.mul_ediv_self_le (by omega)
    omega
  refine ⟨⟨w, v - b2 o, o⟩, some (.list (so.map .int)), some (.int v), some (.bool o), ?_, ⟨fun c h => ?_, ?_⟩, by rw [hpr]; exact hfit⟩
  · unfold lb1_law_columns
    refine ev_set (d := .list (so.map .int)) (ev_sl rfl (ev_part (i := 7 * (k : Int)) (ev_bin rfl rfl (dMul_int (cmulL (by decide) (by decide))))) (ev_part (i := 7 * (k : Int) + 7) (ev_bin (ev_bin rfl rfl (dMul_int (cmulL (by decide) (by decide)))) rfl (dAdd_int _ _))) ?_) ?_
    · rw [slice_ints (a := 7 * k) (b := 7 * k + 7) (by omega) (by omega), hs]
    refine ev_set (d := .int v) (ev_bin (a := .int 1) (b := .int (so.getD 5 0 % mn)) rfl (ev_bin (b := .int mn) (ev_bin rfl rfl (pick_get (k := 5) (by omega))) (ev_cb (ev_cons rfl (ev_cons (ev_bin rfl rfl (dDiv_int (cdivS (by omega) (by omega)))) rfl)) ?_) (dMod_int (by omega))) ?_) ?_
    · show some (PyData.int (if top / prodM cs < 10 then top / prodM cs else 10)) = _
      rw [hm]
    · rw [dAdd_int, hv]
    refine ev_set (d := .bool o) ?_ ?_
    · rw [← ho]
      refine ev_orV (ev_bin rfl rfl (dEq_int _ _)) (ev_andV (ev_bin rfl rfl (dGt_int _ _)) (ev_bin (ev_bin (ev_bin rfl rfl (pick_get (k := 6) (by omega))) rfl (dMod_int (by decide))) rfl (dEq_int _ _)))
    refine ev_seq (ev_app (ds := cs.map Col.enc) (d := Col.enc ⟨w, v - b2 o, o⟩) rfl ?_ (line_lt (by rw [List.length_map]; omega))) ?_
    · refine ev_tup (ev_cons (d := .str w) (ev_cb (ev_cons (d := .list (so.map .int)) rfl (ev_cons (d := .list ((cs.map Col.name).map .str)) (cols_names rfl (by omega) fun c => ?_) rfl)) hw1) (ev_cons (ev_bin (b := .int (b2 o)) rfl (ev_cb (ev_cons rfl rfl) (bInt_bool o)) (dSub_int _ _)) (ev_cons rfl rfl))) (show 3 ≤ sizeLine by decide)
      unfold le1_law_columns
      rfl
    · refine ev_set1 (d := .int (prodM cs * v)) (ev_bin rfl rfl (dMul_int (cmulR (by omega) (by omega)))) ?_
      rw [hpr, List.map_append]
      rfl
  · obtain h | h := List.mem_append.mp h
    · exact hc.1 c h
    · rw [List.mem_singleton.mp h]
      exact ⟨hsz, hw2⟩
  · refine List.map_append ▸ List.nodup_append.mpr ?_
    refine ⟨hc.2, by simp, fun a ha b hb => ?_⟩
    have : b = w := by simpa using hb
    subst this
    exact fun e => hw3 (by rw [← e]; exact ha)
theorem columns_eq {ps : List Int} {many : Nat} {top : Int} (hm : many ≤ 8) (hp : 7 * many ≤ ps.length) (hd : ∀ x ∈ ps, Dr x) (ht0 : 1 ≤ top) (ht : top ≤ 100000) :
    ∃ cs : List Col, fm_law_columns [.list (ps.map .int), .int many, .int top] = some (.tuple [.tuple (cs.map Col.enc), .int (prodM cs)]) ∧ cs.length = many ∧ ColsOk cs ∧ prodM cs ≤ top := by
  have loop : ∃ e', loopD (gB 5) lb1_law_columns (rangeD 0 many) [some (.list (ps.map .int)), some (.int many), some (.int top), some (.list []), some (.int 1), none, none, none, none, none] = some (.nx e') ∧
      ∃ (cs : List Col) (z5 z6 z7 z8 : Option PyData), e' = [some (.list (ps.map .int)), some (.int many), some (.int top), some (.list (cs.map Col.enc)), some (.int (prodM cs)), z5, z6, z7, z8, none] ∧ cs.length = many ∧ ColsOk cs ∧ prodM cs ≤ top := by
    refine loop_range (fun i e => ∃ (cs : List Col) (z5 z6 z7 z8 : Option PyData), e = [some (.list (ps.map .int)), some (.int many), some (.int top), some (.list (cs.map Col.enc)), some (.int (prodM cs)), z5, z6, z7, z8, none] ∧ cs.length = i ∧ ColsOk cs ∧ prodM cs ≤ top)
      ⟨[], none, none, none, none, rfl, rfl, ⟨(fun _ h => absurd h (by simp)), by simp⟩, ht0⟩ fun i e hi he => ?_
    obtain ⟨cs, z5, z6, z7, z8, rfl, h1, h2, h3⟩ := he
    obtain ⟨c, y6, y7, y8, g1, g2, g3⟩ := columns_step (z6 := z6) (z7 := z7) (z8 := z8) hi hp hd ht h2 h1 hm h3
    refine ⟨_, _, rfl, .inl ?_, cs ++ [c], some (.int (i : Int)), y6, y7, y8, rfl, by rw [List.length_append, h1]; rfl, g2, g3⟩
    rw [Int.zero_add]
    exact g1
  obtain ⟨e', h1, cs, z5, z6, z7, z8, rfl, h2, h3, h4⟩ := loop
  refine ⟨cs, ?_, h2, h3, h4⟩
  unfold fm_law_columns mb_law_columns
  refine ev_run (d := .tuple [.tuple (cs.map Col.enc), .int (prodM cs)]) ?_ rfl
  refine ev_set (d := .list []) (ev_lst rfl (Nat.zero_le _)) ?_
  refine ev_set (d := .int 1) rfl ?_
  refine ev_for (ds := rangeD 0 many) (ev_rng rfl ?_) h1 ?_
  · rw [rng1_ok (by omega) (by omega)]
    congr 2
  · exact ev_ret (ev_tup (ev_cons (ev_cb (ev_cons rfl rfl) rfl) (ev_cons rfl rfl)) (show 2 ≤ sizeLine by decide))
/-! ### grounds -/
structure Tab.Gd (t : Tab) : Prop where
  cols : ColsOk t.cols
  name : NmOk t.name
  key : t.key ≤ t.cols.length
  shut : ∀ c ∈ t.cols.take t.key, c.op = false
  some : 1 ≤ t.cols.length
  few : t.cols.length ≤ 4
theorem any_ops {cs : List Col} {env : En} {vs : List Nat} {lb : En → Option PyData} {i j : Nat} (hm : mVar i env = some (.tuple (cs.map Col.enc))) (hz : cs.length ≤ 1000) (he : ∀ c : Col, lb ((wipeD env vs).set j (some c.enc)) = some (.bool c.op)) : mLc vs (mIt (mVar i)) (gB j) mYes lb env = some (.list ((cs.map Col.op).map .bool)) := by
  refine ev_lc (ds := cs.map Col.enc) (ev_it hm rfl) (es := (cs.map Col.op).map .bool) ?_ (by rw [List.length_map, List.length_map]; exact line_big (by omega))
  refine (lc_map (f := fun d => match d with | .tuple [_, _, x] => x | d => d) fun d hd => ?_).trans ?_
  · obtain ⟨c, hc, rfl⟩ := List.mem_map.mp hd
    exact ⟨_, gB_ap _ _ _, rfl, he c⟩
  · rw [List.map_map, List.map_map]
    rfl
theorem ev_index {ma mb : En → Option PyData} {env : En} {ds : List PyData} {b : PyData} {j : Nat} (h1 : ma env = some (.list ds)) (h2 : mb env = some b) (h3 : SeqAt.shaped (.list ds) = true) (h4 : SeqAt.shaped b = true) (h5 : findD b ds 0 = some j) : mIndex ma mb env = some (.int (j : Nat)) := by
  unfold mIndex
  rw [h1, Option.bind_some, h2, Option.bind_some]
  show (if SeqAt.shaped (.list ds) = true ∧ SeqAt.shaped b = true then (findD b ds 0).map fun j => PyData.int (j : Nat) else none) = _
  rw [if_pos ⟨h3, h4⟩, h5]
  rfl
theorem shaped_bools (bs : List Bool) : SeqAt.shaped (.list (bs.map .bool)) = true := by
  unfold SeqAt.shaped
  rw [Bool.and_eq_true]
  have h1 : PyData.canLayAll0 (bs.map .bool) = true := by
    induction bs with
    | nil => simp [PyData.canLayAll0]
    | cons w ws ih =>
      rw [List.map_cons, PyData.canLayAll0, ih]
      simp [PyData.canLay0]
  have h2 : PyData.depthAll (bs.map .bool) = 0 := by
    clear h1
    induction bs with
    | nil => simp [PyData.depthAll]
    | cons w ws ih =>
      rw [List.map_cons, PyData.depthAll, ih]
      simp [PyData.depth]
  refine ⟨by rw [PyData.canLay0]; exact h1, ?_⟩
  rw [PyData.depth, h2]
  rfl
theorem find_op : ∀ (bs : List Bool) (i : Nat), bs.any id = true → findD (.bool true) (bs.map .bool) i = some (i + bs.findIdx id)
  | [], _, h => by cases h
  | b :: bs, i, h => by
    cases b with
    | true =>
      rw [List.map_cons, findD, if_pos (by rw [PyData.eqv]; rfl), List.findIdx_cons]
      rfl
    | false =>
      rw [List.map_cons, findD, if_neg (by rw [PyData.eqv]; decide), find_op bs (i + 1) h, List.findIdx_cons]
      show some (i + 1 + bs.findIdx id) = some (i + (bs.findIdx id + 1))
      congr 1
      omega
theorem find_none {bs : List Bool} (h : bs.any id = false) : bs.findIdx id = bs.length := by
  apply List.findIdx_eq_length.mpr
  intro b hb
  cases hb2 : b with
  | false => rfl
  | true =>
    subst hb2
    have : bs.any id = true := List.any_eq_true.mpr ⟨true, hb, rfl⟩
    rw [h] at this
    cases this
def alikeCols : ∀ (cs ds : List Col), PySem.W.alikeAll (cs.map Col.enc) (ds.map Col.enc) = true
  | [], _ => by rw [List.map_nil, PySem.W.alikeAll]
  | _ :: _, [] => by rw [List.map_cons, List.map_nil, PySem.W.alikeAll]
  | c :: cs, d :: ds => by
    rw [List.map_cons, List.map_cons, PySem.W.alikeAll, alikeCols cs ds]
    simp [Col.enc, PySem.W.alike, PySem.W.alikeAll]
theorem alikeTab (t u : Tab) : PySem.W.alike t.enc u.enc = true := by
  unfold Tab.enc
  rw [PySem.W.alike, PySem.W.alikeAll, PySem.W.alikeAll, PySem.W.alikeAll, PySem.W.alike, PySem.W.alike, PySem.W.alike, alikeCols, PySem.W.alikeAll] <;> rfl
theorem depthCols : ∀ (cs : List Col), PyData.depthAll (cs.map Col.enc) ≤ 1
  | [] => Nat.zero_le 1
  | c :: cs => by
    have := depthCols cs
    have u : PyData.depthAll ((c :: cs).map Col.enc) = max (Col.enc c).depth (PyData.depthAll (cs.map Col.enc)) := by rw [List.map_cons]; rfl
    have h : (Col.enc c).depth = 1 := by simp [Col.enc, PyData.depth, PyData.depthAll]
    omega
theorem depthTab (t : Tab) : t.enc.depth ≤ 3 := by
  have := depthCols t.cols
  simp only [Tab.enc, PyData.depth, PyData.depthAll]
  omega
def sumP : List Tab → Int
  | [] => 0
  | t :: ts => prodM t.cols + sumP ts
theorem sumP_app : ∀ (as bs : List Tab), sumP (as ++ bs) = sumP as + sumP bs
  | [], bs => by simp [sumP]
  | a :: as, bs => by
    show prodM a.cols + sumP (as ++ bs) = prodM a.cols + sumP as + sumP bs
    rw [sumP_app as bs]
    omega
def tabLe (a b : Tab) : Bool := PySem.W.dataLe false id a.enc b.enc
theorem sorted_tabs (ts : List Tab) : bSorted [.list (ts.map Tab.enc)] = some (.list ((ts.mergeSort tabLe).map Tab.enc)) := by
  have hA : PySem.W.AllAlike (ts.map Tab.enc) := fun d hd d' hd' => by
    obtain ⟨t, _, rfl⟩ := List.mem_map.mp hd
    obtain ⟨u, _, rfl⟩ := List.mem_map.mp hd'
    exact alikeTab t u
  have hB : srtB (ts.map Tab.enc) = true := by
    unfold srtB
    rw [Bool.or_eq_true]
    refine .inl (List.all_eq_true.mpr fun d hd => ?_)
    obtain ⟨t, _, rfl⟩ := List.mem_map.mp hd
    rfl
  have hC : depthOk (ts.map Tab.enc) = true := by
    unfold depthOk
    refine List.all_eq_true.mpr fun d hd => ?_
    obtain ⟨t, _, rfl⟩ := List.mem_map.mp hd
    have := depthTab t
    refine decide_eq_true ?_
    omega
  have hS : (ts.map Tab.enc).mergeSort (PySem.W.dataLe false id) = (ts.mergeSort tabLe).map Tab.enc := (PySem.W.sort_maps (r := tabLe) (s := PySem.W.dataLe false id) Tab.enc (l := ts) (fun _ _ _ _ => rfl)).symm
  show (if PySem.W.AllAlike (ts.map Tab.enc) ∧ srtB (ts.map Tab.enc) = true ∧ depthOk (ts.map Tab.enc) = true then some (PyData.list ((ts.map Tab.enc).mergeSort (PySem.W.dataLe false id))) else none) = _
  rw [if_pos ⟨hA, hB, hC⟩, hS]
theorem tabs_names {ts : List Tab} {env : En} {vs : List Nat} {lb : En → Option PyData} {i j : Nat} (hm : mVar i env = some (.list (ts.map Tab.enc))) (hz : ts.length ≤ 1000) (he : ∀ t : Tab, lb ((wipeD env vs).set j (some t.enc)) = some (.str t.name)) : mLc vs (mIt (mVar i)) (gB j) mYes lb env = some (.list ((ts.map Tab.name).map .str)) := by
  refine ev_lc (ds := ts.map Tab.enc) (ev_it hm rfl) (es := (ts.map Tab.name).map .str) ?_ (by rw [List.length_map, List.length_map]; exact line_big (by omega))
  refine (lc_map (f := fun d => match d with | .tuple (x :: _) => x | d => d) fun d hd => ?_).trans ?_
  · obtain ⟨c, hc, rfl⟩ := List.mem_map.mp hd
    exact ⟨_, gB_ap _ _ _, rfl, he c⟩
  · rw [List.map_map, List.map_map]
    rfl
structure TabsOk (ts : List Tab) (top : Int) : Prop where
  each : ∀ t ∈ ts, t.Gd
  apart : (ts.map Tab.name).Nodup
  room : sumP ts ≤ top
theorem ground_step {ps : List Int} {top : Int} {ts : List Tab} {z5 z6 z7 z8 z9 : Option PyData} {k : Nat} (hk : k < 4) (hp : 145 ≤ ps.length) (hd : ∀ x ∈ ps, Dr x) (ht : top ≤ 100000) (hg : TabsOk ts top) (hl : ts.length ≤ k) (hk0 : k = 0 → ts = [] ∧ 1 ≤ top) (hk1 : 1 ≤ k → 1 ≤ ts.length) (hs0 : 0 ≤ sumP ts) :
    ∃ (us : List Tab) (y5 y6 y7 y8 y9 : Option PyData), lb1_law_ground [some (.list (ps.map .int)), some (.int top), some (.list (ts.map Tab.enc)), some (.int (top - sumP ts)), some (.int (k : Int)), z5, z6, z7, z8, z9, none] = some (.nx [some (.list (ps.map .int)), some (.int top), some (.list (us.map Tab.enc)), some (.int (top - sumP us)), some (.int (k : Int)), y5, y6, y7, y8, y9, none]) ∧ TabsOk us top ∧ us.length ≤ k + 1 ∧ 1 ≤ us.length ∧ 0 ≤ sumP us := by
  generalize hs : (ps.drop (1 + 36 * k)).take (37 + 36 * k - (1 + 36 * k)) = so
  have sl : so.length = 36 := by
    rw [← hs, List.length_take, List.length_drop]
    omega
  have sd : ∀ x ∈ so, Dr x := fun x hx => by
    rw [← hs] at hx
    exact hd x (List.mem_of_mem_drop (List.mem_of_mem_take hx))
  have e5 : (mSl (mVar 0) (mPart (mBin dAdd (mC (.int 1)) (mBin dMul (mC (.int 36)) (mVar 4)))) (mPart (mBin dAdd (mC (.int 37)) (mBin dMul (mC (.int 36)) (mVar 4))))) [some (.list (ps.map .int)), some (.int top), some (.list (ts.map Tab.enc)), some (.int (top - sumP ts)), some (.int (k : Int)), z5, z6, z7, z8, z9, none] = some (.list (so.map .int)) := by
    refine ev_sl rfl (ev_part (i := 1 + 36 * (k : Int)) (ev_bin rfl (ev_bin rfl rfl (dMul_int (cmulL (by decide) (by decide)))) (dAdd_int _ _))) (ev_part (i := 37 + 36 * (k : Int)) (ev_bin rfl (ev_bin rfl rfl (dMul_int (cmulL (by decide) (by decide)))) (dAdd_int _ _))) ?_
    rw [slice_ints (a := 1 + 36 * k) (b := 37 + 36 * k) (by omega) (by omega), hs]
  by_cases h0 : 0 < top - sumP ts
  · generalize hm : 1 + so.getD 5 0 % 4 = mi
    have hmi : 1 ≤ mi ∧ mi ≤ 4 := by
      have h1 := Int.emod_nonneg (so.getD 5 0) (show (4 : Int) ≠ 0 by decide)
      have h2 := Int.emod_lt_of_pos (so.getD 5 0) (show (0 : Int) < 4 by decide)
      omega
    obtain ⟨cs, c1, c2, c3, c4⟩ := columns_eq (ps := so.drop 7) (many := mi.toNat) (top := top - sumP ts) (by omega) (by rw [List.length_drop]; omega) (fun x hx => sd x (List.mem_of_mem_drop hx)) (by omega) (by omega)
    rw [show ((mi.toNat : Nat) : Int) = mi by omega] at c1
    have hpos := prodM_pos (cs := cs) fun c h => (c3.1 c h).1
    generalize hkz : (cs.map Col.op).findIdx id = kz
    have hkl : kz ≤ cs.length := by
      have : (cs.map Col.op).findIdx id ≤ (cs.map Col.op).length := List.findIdx_le_length
      rw [List.length_map, hkz] at this
      exact this
    generalize hkv : so.getD 6 0 % ((kz : Int) + 1) = kv
    have hk0' : 0 ≤ kv ∧ kv ≤ kz := by
      have h1 := Int.emod_nonneg (so.getD 6 0) (show (kz : Int) + 1 ≠ 0 by omega)
      have h2 := Int.emod_lt_of_pos (so.getD 6 0) (show 0 < (kz : Int) + 1 by omega)
      omega
    obtain ⟨w, hw1, hw2, hw3⟩ := name_eq (ps := so) (taken := ts.map Tab.name) (by omega) (fun t h => by
      obtain ⟨c, hcm, rfl⟩ := List.mem_map.mp h
      exact (hg.each c hcm).name.shaped) (by rw [List.length_map]; omega)
    have et : Tab.enc ⟨w, kv.toNat, cs⟩ = .tuple [.str w, .int kv, .tuple (cs.map Col.enc)] := by
      show PyData.tuple [.str w, .int ((kv.toNat : Nat) : Int), .tuple (cs.map Col.enc)] = _
      rw [show ((kv.toNat : Nat) : Int) = kv by omega]
    have gd : Tab.Gd ⟨w, kv.toNat, cs⟩ := by
      refine ⟨c3, hw2, by show kv.toNat ≤ cs.length; omega, fun c hc => ?_, by show 1 ≤ cs.length; omega, by show cs.length ≤ 4; omega⟩
      obtain ⟨i, hi, hci⟩ := List.getElem_of_mem hc
      have hi2 : i < kz := by
        rw [List.length_take] at hi
        have : i < kv.toNat := Nat.lt_of_lt_of_le hi (Nat.min_le_left _ _)
        omega
      rw [List.getElem_take] at hci
      have hnot := List.not_of_lt_findIdx (xs := cs.map Col.op) (p := id) (i := i) (by rw [hkz]; exact hi2)
      rw [List.getElem_map, hci] at hnot
      exact hnot
    refine ⟨ts ++ [⟨w, kv.toNat, cs⟩], some (.list (so.map .int)), some (.int (kz : Int)), some (.str w), some (.tuple (cs.map Col.enc)), some (.int (prodM cs)), ?_, ⟨fun t h => ?_, ?_, ?_⟩, by rw [List.length_append]; simp; omega, by rw [List.length_append]; simp, ?_⟩
    · unfold lb1_law_ground
      refine ev_set e5 ?_
      refine ev_if1T (ev_tst (ev_bin rfl rfl ?_)) ?_
      · rw [dGt_int, decide_eq_true h0]
      refine ev_bnd (d := .tuple [.tuple (cs.map Col.enc), .int (prodM cs)]) (ev_cb (ev_cons (d := .list ((so.drop 7).map .int)) (ev_sl rfl (ev_part rfl) rfl (slice_ints_from (a := 7) rfl)) (ev_cons (d := .int mi) (ev_bin rfl (ev_bin (ev_bin rfl rfl (pick_get (k := 5) (by omega))) rfl (dMod_int (by decide))) ?_) (ev_cons rfl rfl))) c1) rfl ?_
      · rw [dAdd_int, hm]
      refine ev_set (d := .int (kz : Int)) ?_ ?_
      · have ops : ∀ {lb : En → Option PyData} {env : En}, env = [some (.list (ps.map .int)), some (.int top), some (.list (ts.map Tab.enc)), some (.int (top - sumP ts)), some (.int (k : Int)), some (.list (so.map .int)), z6, z7, some (.tuple (cs.map Col.enc)), some (.int (prodM cs)), none] → lb = mBin dIx (mVar 10) (mC (.int 2)) → mLc [10] (mIt (mVar 8)) (gB 10) mYes lb env = some (.list ((cs.map Col.op).map .bool)) := fun he hb => by
          subst he hb
          exact any_ops rfl (by omega) fun c => rfl
        by_cases ha : (cs.map Col.op).any id = true
        · refine ev_iT (ev_tru (d := .bool true) (ev_cb (ev_cons (ops rfl rfl) rfl) ?_) rfl) ?_
          · show (boolsOf ((cs.map Col.op).map .bool)).map _ = _
            rw [boolsOf_map, Option.map_some, ha]
          · refine ev_index (ops rfl rfl) rfl (shaped_bools _) rfl ?_
            rw [find_op _ _ ha, Nat.zero_add, hkz]
        · have ha' : (cs.map Col.op).any id = false := Bool.eq_false_iff.mpr ha
          refine ev_iF (ev_tru (d := .bool false) (ev_cb (ev_cons (ops rfl rfl) rfl) ?_) rfl) (ev_cb (ev_cons rfl rfl) ?_)
          · show (boolsOf ((cs.map Col.op).map .bool)).map _ = _
            rw [boolsOf_map, Option.map_some, ha']
          · show some (PyData.int ((cs.map Col.enc).length : Nat)) = _
            rw [List.length_map, ← hkz, find_none ha', List.length_map]
      refine ev_set (d := .str w) (ev_cb (ev_cons (d := .list (so.map .int)) rfl (ev_cons (d := .list ((ts.map Tab.name).map .str)) (tabs_names rfl (by omega) fun t => ?_) rfl)) hw1) ?_
      · unfold le1_law_ground
        rfl
      refine ev_seq (ev_app (ds := ts.map Tab.enc) (d := Tab.enc ⟨w, kv.toNat, cs⟩) rfl ?_ (line_lt (by rw [List.length_map]; omega))) ?_
      · rw [et]
        refine ev_tup (ev_cons rfl (ev_cons (d := .int kv) (ev_bin (b := .int ((kz : Int) + 1)) (ev_bin rfl rfl (pick_get (k := 6) (by omega))) (ev_bin rfl rfl (dAdd_int _ _)) ?_) (ev_cons rfl rfl))) (show 3 ≤ sizeLine by decide)
        rw [dMod_int (by omega), hkv]
      · refine ev_set1 (d := .int (top - sumP ts - prodM cs)) (ev_bin rfl rfl (dSub_int _ _)) ?_
        rw [List.map_append, sumP_app]
        show some (Fl.nx [_, _, _, some (.int (top - sumP ts - prodM cs)), _, _, _, _, _, _, _]) = some (Fl.nx [_, _, _, some (.int (top - (sumP ts + (prodM cs + 0)))), _, _, _, _, _, _, _])
        rw [show top - sumP ts - prodM cs = top - (sumP ts + (prodM cs + 0)) by omega]
        rfl
    · obtain h | h := List.mem_append.mp h
      · exact hg.each t h
      · rw [List.mem_singleton.mp h]
        exact gd
    · refine List.map_append ▸ List.nodup_append.mpr ?_
      refine ⟨hg.apart, by simp, fun a ha b hb => ?_⟩
      have : b = w := by simpa using hb
      subst this
      exact fun e => hw3 (by rw [← e]; exact ha)
    · rw [sumP_app]
      show sumP ts + (prodM cs + 0) ≤ top
      omega
    · rw [sumP_app]
      show 0 ≤ sumP ts + (prodM cs + 0)
      omega
  · refine ⟨ts, some (.list (so.map .int)), z6, z7, z8, z9, ?_, hg, by omega, ?_, hs0⟩
    · unfold lb1_law_ground
      refine ev_set e5 ?_
      refine ev_if1F (ev_tst (ev_bin rfl rfl ?_)) rfl
      rw [dGt_int, decide_eq_false h0]
    · by_cases z : k = 0
      · obtain ⟨rfl, h1⟩ := hk0 z
        exact absurd (show (0 : Int) < top - 0 by omega) h0
      · exact hk1 (by omega)
theorem ground_eq {ps : List Int} {top : Int} (hp : 145 ≤ ps.length) (hd : ∀ x ∈ ps, Dr x) (ht0 : 1 ≤ top) (ht : top ≤ 100000) :
    ∃ ts : List Tab, fm_law_ground [.list (ps.map .int), .int top] = some (.tuple ((ts.mergeSort tabLe).map Tab.enc)) ∧ TabsOk ts top ∧ ts.length ≤ 4 ∧ 1 ≤ ts.length := by
  generalize hn : 1 + ps.getD 0 0 % 4 = n
  have hn1 : 1 ≤ n ∧ n ≤ 4 := by
    have h1 := Int.emod_nonneg (ps.getD 0 0) (show (4 : Int) ≠ 0 by decide)
    have h2 := Int.emod_lt_of_pos (ps.getD 0 0) (show (0 : Int) < 4 by decide)
    omega
  have loop : ∃ e', loopD (gB 4) lb1_law_ground (rangeD 0 n.toNat) [some (.list (ps.map .int)), some (.int top), some (.list []), some (.int top), none, none, none, none, none, none, none] = some (.nx e') ∧
      ∃ (ts : List Tab) (z4 z5 z6 z7 z8 z9 : Option PyData), e' = [some (.list (ps.map .int)), some (.int top), some (.list (ts.map Tab.enc)), some (.int (top - sumP ts)), z4, z5, z6, z7, z8, z9, none] ∧ TabsOk ts top ∧ ts.length ≤ n.toNat ∧ (n.toNat = 0 → ts = []) ∧ (1 ≤ n.toNat → 1 ≤ ts.length) ∧ 0 ≤ sumP ts := by
    refine loop_range (fun i e => ∃ (ts : List Tab) (z4 z5 z6 z7 z8 z9 : Option PyData), e = [some (.list (ps.map .int)), some (.int top), some (.list (ts.map Tab.enc)), some (.int (top - sumP ts)), z4, z5, z6, z7, z8, z9, none] ∧ TabsOk ts top ∧ ts.length ≤ i ∧ (i = 0 → ts = []) ∧ (1 ≤ i → 1 ≤ ts.length) ∧ 0 ≤ sumP ts)
      ⟨[], none, none, none, none, none, none, by simp [sumP], ⟨(fun _ h => absurd h (by simp)), by simp, by simp [sumP]; omega⟩, Nat.le_refl _, fun _ => rfl, fun h => absurd h (by decide), by simp [sumP]⟩ fun i e hi he => ?_
    obtain ⟨ts, z4, z5, z6, z7, z8, z9, rfl, h1, h2, h3, h4, h5⟩ := he
    obtain ⟨us, y5, y6, y7, y8, y9, g1, g2, g3, g4, g5⟩ := ground_step (z5 := z5) (z6 := z6) (z7 := z7) (z8 := z8) (z9 := z9) (k := i) (by omega) hp hd ht h1 h2 (fun z => ⟨h3 z, ht0⟩) h4 h5
    refine ⟨_, _, rfl, .inl ?_, us, some (.int (i : Int)), y5, y6, y7, y8, y9, rfl, g2, g3, (fun z => absurd z (by omega)), fun _ => g4, g5⟩
    rw [Int.zero_add]
    exact g1
  obtain ⟨e', h1, ts, z4, z5, z6, z7, z8, z9, rfl, h2, h3, _, h4, _⟩ := loop
  refine ⟨ts, ?_, h2, by omega, h4 (by omega)⟩
  unfold fm_law_ground mb_law_ground
  refine ev_run (d := .tuple ((ts.mergeSort tabLe).map Tab.enc)) ?_ rfl
  refine ev_set (d := .list []) (ev_lst rfl (Nat.zero_le _)) ?_
  refine ev_set (d := .int top) rfl ?_
  refine ev_for (ds := rangeD 0 n.toNat) ?_ h1 ?_
  · refine ev_rng (ev_cons (ev_bin rfl (ev_bin (ev_bin rfl rfl (pick_get (k := 0) (by omega))) rfl (dMod_int (by decide))) (dAdd_int _ _)) rfl) ?_
    rw [rng1_ok (by omega) (by omega), hn]
  · exact ev_ret (ev_cb (ev_cons (d := .list ((ts.mergeSort tabLe).map Tab.enc)) (ev_cb (ev_cons rfl rfl) (sorted_tabs ts)) rfl) rfl)
theorem cell_eq (ns : List Int) (hl : ns.length ≤ 63) : fm_law_cell_at [.list (ns.map .int), .int 0] = some (.int (ns.getD 0 0)) := by
  unfold fm_law_cell_at mb_law_cell_at
  refine ev_run (d := .int (ns.getD 0 0)) ?_ rfl
  cases ns with
  | nil => exact ev_ifF (ev_tst (ev_bin rfl (ev_cb (ev_cons rfl rfl) rfl) rfl)) rfl (ev_ret rfl)
  | cons n ns =>
    refine ev_ifR (ev_tst (ev_bin rfl (ev_cb (ds := [.list ((n :: ns).map .int)]) (ev_cons rfl rfl) (o := some (.int ((n :: ns).length : Nat))) ?_) ?_)) (ev_ret (ev_bin rfl rfl (dIx_zero _ _)))
    · show some (PyData.int (((n :: ns).map PyData.int).length : Nat)) = _
      rw [List.length_map]
    · rw [dLt_int, decide_eq_true (by rw [List.length_cons]; omega)]
theorem column_values_eq {c : Col} (h : c.Ok) : fm_column_values [c.enc] = some (.list (rangeD (if c.op then -1 else 0) (c.many).toNat)) := by
  obtain ⟨n, s, o⟩ := c
  obtain ⟨h1, h2⟩ := h
  simp only at h1 h2
  have g1 : -(2 ^ 62) ≤ (-1 : Int) ∧ (-1 : Int) < 2 ^ 62 ∧ -(2 ^ 62) ≤ s ∧ s < 2 ^ 62 ∧ (s - -1).toNat ≤ 2 ^ 24 := by omega
  have g2 : -(2 ^ 62) ≤ (0 : Int) ∧ (0 : Int) < 2 ^ 62 ∧ -(2 ^ 62) ≤ s ∧ s < 2 ^ 62 ∧ (s - 0).toNat ≤ 2 ^ 24 := by omega
  cases o
  · simp only [fm_column_values, mb_column_values, Col.enc, c_EMPTY, runB, mSeq, mAsg, mRet, mNext, mIfS, mFor, mAug, mApp, mPar, mVar, mC, mBin, mSl, mNoPart, mPart, mNil, mCons, mTup, mLst, mCB, mNot, mAnd, mOr, mTru, mTst, mAndT, mOrT, mNotT, mIf, mChain, mUn, mLc, mIt, mRng, mYes, mIsi, mLRg, mIndex, mSplit, mRep, gB_ap, gT, gsC, gsN, wipeD, truD, itemsD, dI0, dSub, dAdd, dAddI, dMul, dI, dDiv, dMod, dPow, dIx, dSl, dLt, dLe, dGt, dGe, dNeg, bLen, bTuple, bList, bSum, bAny, bAll, bMin2, bMax2, bInt, bRepr, rng1, rng2, enm, Option.bind_some, Option.bind_none, Option.map_some, Option.join_some, List.map_cons, List.map_nil, List.set_cons_zero, List.set_cons_succ, List.getElem?_cons_zero, List.getElem?_cons_succ, List.cons_append, List.nil_append, List.length_cons, List.length_nil, Nat.reduceSub, Nat.reduceAdd, List.replicate_succ, List.replicate_zero, if_true, Bool.false_eq_true, if_false, ite_true, ite_false, reduceIte]
    rw [if_pos g2]
    simp [Col.many, b2]
  · simp only [fm_column_values, mb_column_values, Col.enc, c_EMPTY, runB, mSeq, mAsg, mRet, mNext, mIfS, mFor, mAug, mApp, mPar, mVar, mC, mBin, mSl, mNoPart, mPart, mNil, mCons, mTup, mLst, mCB, mNot, mAnd, mOr, mTru, mTst, mAndT, mOrT, mNotT, mIf, mChain, mUn, mLc, mIt, mRng, mYes, mIsi, mLRg, mIndex, mSplit, mRep, gB_ap, gT, gsC, gsN, wipeD, truD, itemsD, dI0, dSub, dAdd, dAddI, dMul, dI, dDiv, dMod, dPow, dIx, dSl, dLt, dLe, dGt, dGe, dNeg, bLen, bTuple, bList, bSum, bAny, bAll, bMin2, bMax2, bInt, bRepr, rng1, rng2, enm, Option.bind_some, Option.bind_none, Option.map_some, Option.join_some, List.map_cons, List.map_nil, List.set_cons_zero, List.set_cons_succ, List.getElem?_cons_zero, List.getElem?_cons_succ, List.cons_append, List.nil_append, List.length_cons, List.length_nil, Nat.reduceSub, Nat.reduceAdd, List.replicate_succ, List.replicate_zero, if_true, Bool.false_eq_true, if_false, ite_true, ite_false, reduceIte]
    rw [if_pos g1]
    simp [Col.many, b2]
theorem count_rows_eq {cs : List Col} (h : ∀ c ∈ cs, c.Ok) : fm_count_rows [.tuple (cs.map Col.enc)] = some (.int (prodM cs)) := by
  have loop : ∃ e', loopD (gB 2) lb1_count_rows (cs.map Col.enc) [some (.tuple (cs.map Col.enc)), some (.int 1), none] = some (.nx e') ∧ ∃ z, e' = [some (.tuple (cs.map Col.enc)), some (.int (prodM (cs.take (cs.map Col.enc).length))), z] := by
    refine loop_inv (fun i e => ∃ z, e = [some (.tuple (cs.map Col.enc)), some (.int (prodM (cs.take i))), z]) ⟨none, by simp [prodM]⟩ fun i d e hd hi => ?_
    obtain ⟨z, rfl⟩ := hi
    rw [List.getElem?_map] at hd
    cases hc : cs[i]? with
    | none =>
      rw [hc] at hd
      cases hd
    | some c =>
      rw [hc] at hd
      cases hd
      have hi := (List.getElem?_eq_some_iff.mp hc).1
      have ok : c.Ok := h c (List.mem_of_getElem? hc)
      have hm := ok.many
      have ec := column_values_eq ok
      have g : CMulA (prodM (cs.take i)) c.many := cmulR (by omega) (by omega)
      have el : ((c.many).toNat : Int) = c.many := by omega
      refine ⟨_, _, rfl, .inl ?_, some c.enc, rfl⟩
      simp only [lb1_count_rows, runB, mSeq, mAsg, mRet, mNext, mIfS, mFor, mAug, mApp, mPar, mVar, mC, mBin, mSl, mNoPart, mPart, mNil, mCons, mTup, mLst, mCB, mNot, mAnd, mOr, mTru, mTst, mAndT, mOrT, mNotT, mIf, mChain, mUn, mLc, mIt, mRng, mYes, mIsi, mLRg, mIndex, mSplit, mRep, gB_ap, gT, gsC, gsN, wipeD, truD, itemsD, dI0, dSub, dAdd, dAddI, dMul, dI, dDiv, dMod, dPow, dIx, dSl, dLt, dLe, dGt, dGe, dNeg, bLen, bTuple, bList, bSum, bAny, bAll, bMin2, bMax2, bInt, bRepr, rng1, rng2, enm, Option.bind_some, Option.bind_none, Option.map_some, Option.join_some, List.map_cons, List.map_nil, List.set_cons_zero, List.set_cons_succ, List.getElem?_cons_zero, List.getElem?_cons_succ, List.cons_append, List.nil_append, List.length_cons, List.length_nil, Nat.reduceSub, Nat.reduceAdd, List.replicate_succ, List.replicate_zero, if_true, Bool.false_eq_true, if_false, ite_true, ite_false, reduceIte, ec, rangeD_len, el]
      rw [if_pos g]
      simp only [runB, mSeq, mAsg, mRet, mNext, mIfS, mFor, mAug, mApp, mPar, mVar, mC, mBin, mSl, mNoPart, mPart, mNil, mCons, mTup, mLst, mCB, mNot, mAnd, mOr, mTru, mTst, mAndT, mOrT, mNotT, mIf, mChain, mUn, mLc, mIt, mRng, mYes, mIsi, mLRg, mIndex, mSplit, mRep, gB_ap, gT, gsC, gsN, wipeD, truD, itemsD, dI0, dSub, dAdd, dAddI, dMul, dI, dDiv, dMod, dPow, dIx, dSl, dLt, dLe, dGt, dGe, dNeg, bLen, bTuple, bList, bSum, bAny, bAll, bMin2, bMax2, bInt, bRepr, rng1, rng2, enm, Option.bind_some, Option.bind_none, Option.map_some, Option.join_some, List.map_cons, List.map_nil, List.set_cons_zero, List.set_cons_succ, List.getElem?_cons_zero, List.getElem?_cons_succ, List.cons_append, List.nil_append, List.length_cons, List.length_nil, Nat.reduceSub, Nat.reduceAdd, List.replicate_succ, List.replicate_zero, if_true, Bool.false_eq_true, if_false, ite_true, ite_false, reduceIte]
      rw [List.take_add_one, hc, prodM_app]
      simp [prodM]
  obtain ⟨e', h1, z, rfl⟩ := loop
  simp only [fm_count_rows, mb_count_rows, runB, mSeq, mAsg, mRet, mNext, mIfS, mFor, mAug, mApp, mPar, mVar, mC, mBin, mSl, mNoPart, mPart, mNil, mCons, mTup, mLst, mCB, mNot, mAnd, mOr, mTru, mTst, mAndT, mOrT, mNotT, mIf, mChain, mUn, mLc, mIt, mRng, mYes, mIsi, mLRg, mIndex, mSplit, mRep, gB_ap, gT, gsC, gsN, wipeD, truD, itemsD, dI0, dSub, dAdd, dAddI, dMul, dI, dDiv, dMod, dPow, dIx, dSl, dLt, dLe, dGt, dGe, dNeg, bLen, bTuple, bList, bSum, bAny, bAll, bMin2, bMax2, bInt, bRepr, rng1, rng2, enm, Option.bind_some, Option.bind_none, Option.map_some, Option.join_some, List.map_cons, List.map_nil, List.set_cons_zero, List.set_cons_succ, List.getElem?_cons_zero, List.getElem?_cons_succ, List.cons_append, List.nil_append, List.length_cons, List.length_nil, Nat.reduceSub, Nat.reduceAdd, List.replicate_succ, List.replicate_zero, if_true, Bool.false_eq_true, if_false, ite_true, ite_false, reduceIte]
  rw [h1]
  simp only [runB, mSeq, mAsg, mRet, mNext, mIfS, mFor, mAug, mApp, mPar, mVar, mC, mBin, mSl, mNoPart, mPart, mNil, mCons, mTup, mLst, mCB, mNot, mAnd, mOr, mTru, mTst, mAndT, mOrT, mNotT, mIf, mChain, mUn, mLc, mIt, mRng, mYes, mIsi, mLRg, mIndex, mSplit, mRep, gB_ap, gT, gsC, gsN, wipeD, truD, itemsD, dI0, dSub, dAdd, dAddI, dMul, dI, dDiv, dMod, dPow, dIx, dSl, dLt, dLe, dGt, dGe, dNeg, bLen, bTuple, bList, bSum, bAny, bAll, bMin2, bMax2, bInt, bRepr, rng1, rng2, enm, Option.bind_some, Option.bind_none, Option.map_some, Option.join_some, List.map_cons, List.map_nil, List.set_cons_zero, List.set_cons_succ, List.getElem?_cons_zero, List.getElem?_cons_succ, List.cons_append, List.nil_append, List.length_cons, List.length_nil, Nat.reduceSub, Nat.reduceAdd, List.replicate_succ, List.replicate_zero, if_true, Bool.false_eq_true, if_false, ite_true, ite_false, reduceIte]
  simp only [List.length_map, List.take_length]

def Tab.kc (t : Tab) : List Col := if t.key = 0 then t.cols else t.cols.take t.key
def Tab.rc (t : Tab) : List Col := if t.key = 0 then [] else t.cols.drop t.key
structure Tab.Ok (t : Tab) : Prop where
  cols : ∀ c ∈ t.cols, c.Ok
  key : t.key ≤ t.cols.length
  some : 1 ≤ t.cols.length
  few : t.cols.length ≤ 4
  room : prodM t.cols ≤ 100000
def Tab.kn (t : Tab) : Nat := (prodM t.kc).toNat
def Tab.rn (t : Tab) : Int := prodM t.rc
theorem Tab.split (t : Tab) : t.kc ++ t.rc = t.cols := by
  unfold Tab.kc Tab.rc
  by_cases h : t.key = 0
  · rw [if_pos h, if_pos h, List.append_nil]
  · rw [if_neg h, if_neg h, List.take_append_drop]
theorem Tab.Ok.kOk {t : Tab} (h : t.Ok) : ∀ c ∈ t.kc, c.Ok := fun c hc => h.cols c (by rw [← t.split]; exact List.mem_append_left _ hc)
theorem Tab.Ok.rOk {t : Tab} (h : t.Ok) : ∀ c ∈ t.rc, c.Ok := fun c hc => h.cols c (by rw [← t.split]; exact List.mem_append_right _ hc)
theorem Tab.Ok.kn {t : Tab} (h : t.Ok) : (t.kn : Int) = prodM t.kc ∧ 1 ≤ t.kn := by
  have := prodM_pos h.kOk
  unfold Tab.kn
  omega
theorem Tab.Ok.rn {t : Tab} (h : t.Ok) : 1 ≤ t.rn := prodM_pos h.rOk
theorem Tab.Ok.small {t : Tab} (h : t.Ok) : (t.kn : Int) * t.rn ≤ 100000 := by
  have e : prodM t.cols = prodM t.kc * prodM t.rc := by rw [← prodM_app, t.split]
  rw [h.kn.1]
  unfold Tab.rn
  rw [← e]
  exact h.room
theorem Tab.Ok.kn_le {t : Tab} (h : t.Ok) : (t.kn : Int) ≤ 100000 := by
  have h1 := h.small
  have h2 := Int.mul_le_mul_of_nonneg_left h.rn (show 0 ≤ (t.kn : Int) by omega)
  omega
theorem Tab.Ok.rn_le {t : Tab} (h : t.Ok) : t.rn ≤ 100000 := by
  have h1 := h.small
  have h2 := Int.mul_le_mul_of_nonneg_right (show (1 : Int) ≤ t.kn by have := h.kn.2; omega) (show 0 ≤ t.rn by have := h.rn; omega)
  omega
theorem kc_data (t : Tab) : (if t.key = 0 then t.cols.map Col.enc else (t.cols.map Col.enc).take t.key) = t.kc.map Col.enc := by
  unfold Tab.kc
  split
  · rfl
  · rw [List.map_take]
theorem rc_data (t : Tab) (h : t.key ≤ t.cols.length) : (t.cols.map Col.enc).drop t.kc.length = t.rc.map Col.enc := by
  unfold Tab.kc Tab.rc
  by_cases z : t.key = 0
  · rw [if_pos z, if_pos z, List.drop_of_length_le (by rw [List.length_map]; omega)]
    rfl
  · rw [if_neg z, if_neg z, List.length_take, Nat.min_eq_left h, List.map_drop]
theorem cc_loop (n : Nat) (r : Int) (hkl : (n : Int) ≤ 100000) (hr : 1 ≤ r) (hrl : r ≤ 100000) (x0 x1 x7 x8 x9 : Option PyData) : ∃ e', loopD (gB 6) lb1_count_contents (rangeD 0 13) [x0, x1, some (.int n), some (.int r), some (.int 0), some (.int 1), none, x7, x8, x9] = some (.nx e') ∧ ∃ z, e' = [x0, x1, some (.int n), some (.int r), some (.int (sw (wz n r) 13)), some (.int (wz n r 13)), z, x7, x8, x9] := by
  refine loop_range (fun i e => ∃ z, e = [x0, x1, some (.int n), some (.int r), some (.int (sw (wz n r) i)), some (.int (wz n r i)), z, x7, x8, x9]) ⟨none, by rw [wz_zero]; rfl⟩ fun i e hi he => ?_
  obtain ⟨z, rfl⟩ := he
  have e0 : (0 : Int) + (i : Int) = i := Int.zero_add _
  have g1 : CMulA (wz n r i) ((n : Int) - i) := cmulR (by omega) (by omega)
  have g2 : CDivW (wz n r i * ((n : Int) - i)) ((i : Int) + 1) := cdivS (by omega) (by omega)
  have g3 : CMulA (wz n r i * ((n : Int) - i) / ((i : Int) + 1)) r := cmulR (by omega) (by omega)
  refine ⟨[x0, x1, some (.int n), some (.int r), some (.int (sw (wz n r) i)), some (.int (wz n r i)), some (.int i), x7, x8, x9], [x0, x1, some (.int n), some (.int r), some (.int (sw (wz n r) (i + 1))), some (.int (wz n r (i + 1))), some (.int i), x7, x8, x9], by rw [e0, gB_ap]; rfl, .inl ?_, some (.int i), rfl⟩
  simp only [lb1_count_contents, runB, mSeq, mAsg, mRet, mNext, mIfS, mFor, mAug, mApp, mPar, mVar, mC, mBin, mSl, mNoPart, mPart, mNil, mCons, mTup, mLst, mCB, mNot, mAnd, mOr, mTru, mTst, mAndT, mOrT, mNotT, mIf, mChain, mUn, mLc, mIt, mRng, mYes, mIsi, mLRg, mIndex, mSplit, mRep, gB_ap, gT, gsC, gsN, wipeD, truD, itemsD, dI0, dSub, dAdd, dAddI, dMul, dI, dDiv, dMod, dPow, dIx, dSl, dLt, dLe, dGt, dGe, dNeg, bLen, bTuple, bList, bSum, bAny, bAll, bMin2, bMax2, bInt, bRepr, rng1, rng2, enm, Option.bind_some, Option.bind_none, Option.map_some, Option.join_some, List.map_cons, List.map_nil, List.set_cons_zero, List.set_cons_succ, List.getElem?_cons_zero, List.getElem?_cons_succ, List.cons_append, List.nil_append, List.length_cons, List.length_nil, Nat.reduceSub, Nat.reduceAdd, List.replicate_succ, List.replicate_zero, if_true, Bool.false_eq_true, if_false, ite_true, ite_false, reduceIte]
  rw [if_pos g1]
  simp only [runB, mSeq, mAsg, mRet, mNext, mIfS, mFor, mAug, mApp, mPar, mVar, mC, mBin, mSl, mNoPart, mPart, mNil, mCons, mTup, mLst, mCB, mNot, mAnd, mOr, mTru, mTst, mAndT, mOrT, mNotT, mIf, mChain, mUn, mLc, mIt, mRng, mYes, mIsi, mLRg, mIndex, mSplit, mRep, gB_ap, gT, gsC, gsN, wipeD, truD, itemsD, dI0, dSub, dAdd, dAddI, dMul, dI, dDiv, dMod, dPow, dIx, dSl, dLt, dLe, dGt, dGe, dNeg, bLen, bTuple, bList, bSum, bAny, bAll, bMin2, bMax2, bInt, bRepr, rng1, rng2, enm, Option.bind_some, Option.bind_none, Option.map_some, Option.join_some, List.map_cons, List.map_nil, List.set_cons_zero, List.set_cons_succ, List.getElem?_cons_zero, List.getElem?_cons_succ, List.cons_append, List.nil_append, List.length_cons, List.length_nil, Nat.reduceSub, Nat.reduceAdd, List.replicate_succ, List.replicate_zero, if_true, Bool.false_eq_true, if_false, ite_true, ite_false, reduceIte]
  rw [if_pos g2]
  simp only [runB, mSeq, mAsg, mRet, mNext, mIfS, mFor, mAug, mApp, mPar, mVar, mC, mBin, mSl, mNoPart, mPart, mNil, mCons, mTup, mLst, mCB, mNot, mAnd, mOr, mTru, mTst, mAndT, mOrT, mNotT, mIf, mChain, mUn, mLc, mIt, mRng, mYes, mIsi, mLRg, mIndex, mSplit, mRep, gB_ap, gT, gsC, gsN, wipeD, truD, itemsD, dI0, dSub, dAdd, dAddI, dMul, dI, dDiv, dMod, dPow, dIx, dSl, dLt, dLe, dGt, dGe, dNeg, bLen, bTuple, bList, bSum, bAny, bAll, bMin2, bMax2, bInt, bRepr, rng1, rng2, enm, Option.bind_some, Option.bind_none, Option.map_some, Option.join_some, List.map_cons, List.map_nil, List.set_cons_zero, List.set_cons_succ, List.getElem?_cons_zero, List.getElem?_cons_succ, List.cons_append, List.nil_append, List.length_cons, List.length_nil, Nat.reduceSub, Nat.reduceAdd, List.replicate_succ, List.replicate_zero, if_true, Bool.false_eq_true, if_false, ite_true, ite_false, reduceIte]
  rw [if_pos g3]
  simp only [runB, mSeq, mAsg, mRet, mNext, mIfS, mFor, mAug, mApp, mPar, mVar, mC, mBin, mSl, mNoPart, mPart, mNil, mCons, mTup, mLst, mCB, mNot, mAnd, mOr, mTru, mTst, mAndT, mOrT, mNotT, mIf, mChain, mUn, mLc, mIt, mRng, mYes, mIsi, mLRg, mIndex, mSplit, mRep, gB_ap, gT, gsC, gsN, wipeD, truD, itemsD, dI0, dSub, dAdd, dAddI, dMul, dI, dDiv, dMod, dPow, dIx, dSl, dLt, dLe, dGt, dGe, dNeg, bLen, bTuple, bList, bSum, bAny, bAll, bMin2, bMax2, bInt, bRepr, rng1, rng2, enm, Option.bind_some, Option.bind_none, Option.map_some, Option.join_some, List.map_cons, List.map_nil, List.set_cons_zero, List.set_cons_succ, List.getElem?_cons_zero, List.getElem?_cons_succ, List.cons_append, List.nil_append, List.length_cons, List.length_nil, Nat.reduceSub, Nat.reduceAdd, List.replicate_succ, List.replicate_zero, if_true, Bool.false_eq_true, if_false, ite_true, ite_false, reduceIte]
  rw [wz_step, sw]
theorem count_contents_eq {t : Tab} (h : t.Ok) : fm_count_contents [t.enc] = some (.int (cont t.kn t.rn)) := by
  obtain ⟨hk1, hk2⟩ := h.kn
  have hr := h.rn
  have hkl := h.kn_le
  have hrl := h.rn_le
  have loop := cc_loop t.kn t.rn hkl hr hrl
  have ek := count_rows_eq h.kOk
  have er := count_rows_eq h.rOk
  rw [← hk1] at ek
  have er' : fm_count_rows [.tuple (t.rc.map Col.enc)] = some (.int t.rn) := er
  have ekd : (mIf (mTst (mBin dGt (mVar 8) (mC (.int 0)))) (mSl (mVar 9) mNoPart (mPart (mVar 8))) (mVar 9)) [some t.enc, none, none, none, none, none, none, some (.str t.name), some (.int t.key), some (.tuple (t.cols.map Col.enc))] = some (.tuple (t.kc.map Col.enc)) := by
    by_cases z : t.key = 0
    · refine ev_iF (ev_tst (ev_bin rfl rfl ?_)) ?_
      · rw [dGt_int, decide_eq_false (by omega)]
      · rw [Tab.kc, if_pos z]
        rfl
    · refine ev_iT (ev_tst (ev_bin rfl rfl ?_)) (ev_sl rfl rfl (ev_part rfl) ?_)
      · rw [dGt_int, decide_eq_true (by omega)]
      · show some (PyData.tuple (cutD _ _ _)) = _
        rw [cutD_take, ← kc_data, if_neg z]
  obtain ⟨e', h1, y, rfl⟩ := loop (some t.enc) (some (.tuple (t.kc.map Col.enc))) (some (.str t.name)) (some (.int t.key)) (some (.tuple (t.cols.map Col.enc)))
  unfold fm_count_contents mb_count_contents
  refine ev_run (d := .int (cont t.kn t.rn)) ?_ rfl
  refine ev_bnd (d := t.enc) (env' := [some t.enc, none, none, none, none, none, none, some (.str t.name), some (.int t.key), some (.tuple (t.cols.map Col.enc))]) rfl rfl ?_
  refine ev_set ekd ?_
  refine ev_set (d := .int t.kn) (ev_cb (ev_cons rfl rfl) ek) ?_
  refine ev_set (d := .int t.rn) (ev_cb (ev_cons (d := .tuple (t.rc.map Col.enc)) (ev_sl rfl (ev_part (i := (t.kc.length : Nat)) ?_) rfl ?_) rfl) er') ?_
  · show some (PyData.int ((t.kc.map Col.enc).length : Nat)) = _
    rw [List.length_map]
  · show some (PyData.tuple (cutD _ _ _)) = _
    rw [cutD_drop, rc_data t h.key]
  refine ev_set (d := .int 0) rfl ?_
  refine ev_set (d := .int 1) rfl ?_
  refine ev_for (ds := rangeD 0 13) ?_ h1 ?_
  · refine ev_rng (ev_cons (ev_bin rfl rfl (dAdd_int 12 1)) rfl) ?_
    exact rng1_ok (by decide) (by decide)
  · exact ev_ret rfl

def prodC : List Tab → Int
  | [] => 1
  | t :: ts => cont t.kn t.rn * prodC ts
theorem prodC_app : ∀ (as bs : List Tab), prodC (as ++ bs) = prodC as * prodC bs
  | [], bs => by simp [prodC]
  | c :: cs, bs => by
    show cont c.kn c.rn * prodC (cs ++ bs) = cont c.kn c.rn * prodC cs * prodC bs
    rw [prodC_app cs bs, Int.mul_assoc]
theorem natAbs_lt {i : Int} {n : Nat} (h0 : 0 ≤ i) (h : i < 2 ^ n) : i.natAbs < 2 ^ n := by
  have e : ((2 ^ n : Nat) : Int) = 2 ^ n := by simp
  have h1 : (i.natAbs : Int) < ((2 ^ n : Nat) : Int) := by
    rw [e]
    omega
  exact Int.ofNat_lt.mp h1
theorem prodC_big : ∀ {ts : List Tab}, (∀ t ∈ ts, t.Ok) → 0 ≤ prodC ts ∧ (prodC ts).natAbs < 2 ^ (1 + 210 * ts.length)
  | [], _ => by simp [prodC]
  | t :: ts, h => by
    have h1 := cont_big (n := t.kn) (r := t.rn) (by have := (h t List.mem_cons_self).rn; omega) (h t List.mem_cons_self).small
    have h2 := prodC_big (ts := ts) fun x hx => h x (List.mem_cons_of_mem _ hx)
    refine ⟨Int.mul_nonneg h1.1 h2.1, ?_⟩
    have h3 := wide_lt (natAbs_lt h1.1 h1.2) h2.2
    show (cont t.kn t.rn * prodC ts).natAbs < _
    have e : 210 + (1 + 210 * ts.length) = 1 + 210 * (t :: ts).length := by
      rw [List.length_cons]
      omega
    rw [← e]
    exact h3
theorem cmulC {ts : List Tab} {t : Tab} (h : ∀ x ∈ ts, x.Ok) (ht : t.Ok) (hl : ts.length ≤ 4) : CMulA (prodC ts) (cont t.kn t.rn) := by
  have h1 := cont_big (n := t.kn) (r := t.rn) (by have := ht.rn; omega) ht.small
  have h2 := prodC_big h
  refine .inr (wide_mul h2.2 (natAbs_lt h1.1 h1.2) (by omega) (by decide) (by omega))
theorem count_worlds_eq {ts : List Tab} (h : ∀ t ∈ ts, t.Ok) (hl : ts.length ≤ 4) : fm_count_worlds [.tuple (ts.map Tab.enc)] = some (.int (prodC ts)) := by
  have loop : ∃ e', loopD (gB 2) lb1_count_worlds (ts.map Tab.enc) [some (.tuple (ts.map Tab.enc)), some (.int 1), none] = some (.nx e') ∧ ∃ z, e' = [some (.tuple (ts.map Tab.enc)), some (.int (prodC (ts.take (ts.map Tab.enc).length))), z] := by
    refine loop_inv (fun i e => ∃ z, e = [some (.tuple (ts.map Tab.enc)), some (.int (prodC (ts.take i))), z]) ⟨none, by simp [prodC]⟩ fun i d e hd hi => ?_
    obtain ⟨z, rfl⟩ := hi
    rw [List.getElem?_map] at hd
    cases hc : ts[i]? with
    | none =>
      rw [hc] at hd
      cases hd
    | some t =>
      rw [hc] at hd
      cases hd
      have hi := (List.getElem?_eq_some_iff.mp hc).1
      have ok : t.Ok := h t (List.mem_of_getElem? hc)
      have g := cmulC (ts := ts.take i) (fun x hx => h x (List.mem_of_mem_take hx)) ok (by rw [List.length_take]; omega)
      refine ⟨_, [some (.tuple (ts.map Tab.enc)), some (.int (prodC (ts.take (i + 1)))), some t.enc], rfl, .inl ?_, some t.enc, rfl⟩
      unfold lb1_count_worlds mAug
      rw [show mVar 1 ([some (PyData.tuple (ts.map Tab.enc)), some (PyData.int (prodC (ts.take i))), z].set 2 (some t.enc)) = some (.int (prodC (ts.take i))) from rfl, Option.bind_some,
        ev_cb (o := some (.int (cont t.kn t.rn))) (ev_cons (d := t.enc) rfl rfl) (count_contents_eq ok), Option.bind_some, dMul_int g, Option.bind_some]
      rw [List.take_add_one, hc, prodC_app]
      show some (Fl.nx [_, some (.int (prodC (ts.take i) * cont t.kn t.rn)), _]) = some (Fl.nx [_, some (.int (prodC (ts.take i) * (cont t.kn t.rn * 1))), _])
      rw [Int.mul_one]
  obtain ⟨e', h1, z, rfl⟩ := loop
  unfold fm_count_worlds mb_count_worlds
  refine ev_run (d := .int (prodC ts)) ?_ rfl
  refine ev_set (d := .int 1) rfl ?_
  refine ev_for (ds := ts.map Tab.enc) rfl h1 ?_
  simp only [List.length_map, List.take_length]
  exact ev_ret rfl
theorem prod_sum : ∀ {ts : List Tab}, (∀ t ∈ ts, t.Gd) → (∀ t ∈ ts, prodM t.cols ≤ sumP ts) ∧ 0 ≤ sumP ts
  | [], _ => ⟨fun _ h => absurd h (by simp), Int.le_refl _⟩
  | u :: us, h => by
    obtain ⟨h1, h2⟩ := prod_sum (ts := us) fun t ht => h t (List.mem_cons_of_mem _ ht)
    have hp := prodM_pos (cs := u.cols) fun c hc => ((h u List.mem_cons_self).cols.1 c hc).1
    refine ⟨fun t ht => ?_, by show 0 ≤ prodM u.cols + sumP us; omega⟩
    show prodM t.cols ≤ prodM u.cols + sumP us
    rcases List.mem_cons.mp ht with rfl | ht
    · omega
    · have := h1 t ht
      omega
/-! ### rows of a table, in their order -/
def valsC (c : Col) : List Int := (List.range c.many.toNat).map fun (i : Nat) => (if c.op then -1 else 0) + (i : Int)
def stepR (rows : List (List Int)) (c : Col) : List (List Int) := rows.flatMap fun row => (valsC c).map fun v => row ++ [v]
def rowsL (cs : List Col) : List (List Int) := cs.foldl stepR [[]]
theorem stepR_from (A : List (List Int)) (c : Col) : stepR A c = A.flatMap fun k => (stepR [[]] c).map (k ++ ·) := by
  unfold stepR
  simp only [List.flatMap_cons, List.flatMap_nil, List.append_nil, List.nil_append, List.map_map]
  rfl
theorem rows_from : ∀ (bs : List Col) (A : List (List Int)), bs.foldl stepR A = A.flatMap fun k => (rowsL bs).map (k ++ ·)
  | [], A => by
    show A = A.flatMap fun k => [k ++ []]
    simp
  | b :: bs, A => by
    have h1 := rows_from bs (stepR A b)
    have h2 := rows_from bs (stepR [[]] b)
    show bs.foldl stepR (stepR A b) = A.flatMap fun k => (bs.foldl stepR (stepR [[]] b)).map (k ++ ·)
    rw [h1, h2, stepR_from A b]
    simp only [List.flatMap_assoc, List.map_flatMap, List.flatMap_map, List.map_map]
    congr 1
    funext k
    congr 1
    funext l
    congr 1
    funext r
    simp
theorem rowsL_app (as bs : List Col) : rowsL (as ++ bs) = (rowsL as).flatMap fun k => (rowsL bs).map (k ++ ·) := by
  unfold rowsL
  rw [List.foldl_append]
  exact rows_from bs _
theorem stepR_len {rows : List (List Int)} {c : Col} {n : Nat} (h : ∀ r ∈ rows, r.length = n) : ∀ r ∈ stepR rows c, r.length = n + 1 := fun r hr => by
  unfold stepR at hr
  obtain ⟨a, ha, hb⟩ := List.mem_flatMap.mp hr
  obtain ⟨v, _, rfl⟩ := List.mem_map.mp hb
  rw [List.length_append, h a ha]
  rfl
theorem fold_len : ∀ (cs : List Col) {rows : List (List Int)} {n : Nat}, (∀ r ∈ rows, r.length = n) → ∀ r ∈ cs.foldl stepR rows, r.length = n + cs.length
  | [], _, _, h, r, hr => h r hr
  | c :: cs, rows, n, h, r, hr => by
    have := fold_len cs (stepR_len (c := c) h) r hr
    rw [this, List.length_cons]
    omega
theorem rowsL_len {cs : List Col} : ∀ r ∈ rowsL cs, r.length = cs.length := fun r hr => by
  have := fold_len cs (rows := [[]]) (n := 0) (fun r h => by rw [List.mem_singleton.mp h]; rfl) r hr
  omega
theorem valsC_nodup (c : Col) : (valsC c).Nodup := by
  unfold valsC
  refine List.Pairwise.map _ (fun a b (h : a ≠ b) => ?_) List.nodup_range
  show (if c.op = true then -1 else 0) + (a : Int) ≠ (if c.op = true then -1 else 0) + (b : Int)
  omega
theorem stepR_nodup {rows : List (List Int)} {c : Col} (h : rows.Nodup) : (stepR rows c).Nodup := by
  unfold stepR List.Nodup
  rw [List.pairwise_flatMap]
  refine ⟨fun a _ => List.Pairwise.map _ (fun x y (n : x ≠ y) z => n ?_) (valsC_nodup c), h.imp fun {a b} n x hx y hy z => n ?_⟩
  · have := List.append_cancel_left z
    injection this
  · obtain ⟨v, _, rfl⟩ := List.mem_map.mp hx
    obtain ⟨w, _, rfl⟩ := List.mem_map.mp hy
    have := congrArg List.dropLast z
    rw [List.dropLast_concat, List.dropLast_concat] at this
    exact this
theorem fold_nodup : ∀ (cs : List Col) {rows : List (List Int)}, rows.Nodup → (cs.foldl stepR rows).Nodup
  | [], _, h => h
  | c :: cs, _, h => fold_nodup cs (stepR_nodup h)
theorem rowsL_nodup (cs : List Col) : (rowsL cs).Nodup := fold_nodup cs (by simp)
theorem valsC_len (c : Col) : (valsC c).length = c.many.toNat := by
  unfold valsC
  (rw [List.length_map, List.length_range])
theorem stepR_count (rows : List (List Int)) (c : Col) : (stepR rows c).length = rows.length * c.many.toNat := by
  unfold stepR
  induction rows with
  | nil => simp
  | cons r rs ih => rw [List.flatMap_cons, List.length_append, ih, List.length_map, valsC_len, List.length_cons, Nat.succ_mul, Nat.add_comm]
theorem fold_count : ∀ (cs : List Col) (rows : List (List Int)), (∀ c ∈ cs, c.Ok) → ((cs.foldl stepR rows).length : Int) = rows.length * prodM cs
  | [], rows, _ => by
    show (rows.length : Int) = rows.length * 1
    rw [Int.mul_one]
  | c :: cs, rows, h => by
    have hm := (h c List.mem_cons_self).many
    have := fold_count cs (stepR rows c) fun x hx => h x (List.mem_cons_of_mem _ hx)
    show ((cs.foldl stepR (stepR rows c)).length : Int) = rows.length * (c.many * prodM cs)
    rw [this, stepR_count]
    have e : ((rows.length * c.many.toNat : Nat) : Int) = rows.length * c.many := by
      rw [Int.natCast_mul]
      congr 1
      omega
    rw [e, Int.mul_assoc]
theorem rowsL_count {cs : List Col} (h : ∀ c ∈ cs, c.Ok) : ((rowsL cs).length : Int) = prodM cs := by
  have := fold_count cs [[]] h
  unfold rowsL
  rw [this]
  show (1 : Int) * prodM cs = prodM cs
  rw [Int.one_mul]
/-! ### ways to fill a table -/
section
variable (key : List Int → List Int)
def stepW (ws : List (List (List Int))) (row : List Int) : List (List (List Int)) := ws ++ (ws.filter fun one => decide (key row ∉ one.map key)).map fun one => one ++ [row]
def mayF (one : List (List Int)) (row : List Int) : Bool := match one.getLast? with
  | none => true
  | some last => decide (one.length < 12) && !decide (key last = key row)
def stepP (ws : List (List (List Int))) (row : List Int) : List (List (List Int)) := ws ++ (ws.filter fun one => mayF key one row).map fun one => one ++ [row]
variable {key}
theorem filter_two {α : Type} {p : α → Bool} {as bs : List α} (h1 : ∀ a ∈ as, p a = true) (h2 : ∀ b ∈ bs, p b = false) : (as ++ bs).filter p = as := by
  rw [List.filter_append, List.filter_eq_self.mpr h1, List.filter_eq_nil_iff.mpr (fun b hb => by rw [h2 b hb]; exact Bool.false_ne_true), List.append_nil]
theorem group_W {κ : List Int} {ws : List (List (List Int))} (hw : ∀ one ∈ ws, κ ∉ one.map key) : ∀ (G : List (List Int)) (ex : List (List (List Int))), (∀ row ∈ G, key row = κ) → (∀ one ∈ ex, κ ∈ one.map key) →
    G.foldl (stepW key) (ws ++ ex) = (ws ++ ex) ++ G.flatMap fun row => ws.map fun one => one ++ [row]
  | [], ex, _, _ => by simp
  | row :: G, ex, hg, he => by
    have hk : key row = κ := hg row List.mem_cons_self
    have hf : (ws ++ ex).filter (fun one => decide (key row ∉ one.map key)) = ws := filter_two (fun a ha => by rw [hk]; exact decide_eq_true (hw a ha)) fun b hb => by rw [hk]; exact decide_eq_false fun z => z (he b hb)
    have st : stepW key (ws ++ ex) row = ws ++ (ex ++ ws.map fun one => one ++ [row]) := by
      unfold stepW
      rw [hf, List.append_assoc]
    rw [List.foldl_cons, st, group_W hw G _ (fun r hr => hg r (List.mem_cons_of_mem _ hr)) fun one ho => ?_, List.flatMap_cons]
    · simp only [List.append_assoc]
    · rcases List.mem_append.mp ho with z | z
      · exact he one z
      · obtain ⟨o, _, rfl⟩ := List.mem_map.mp z
        rw [List.map_append]
        exact List.mem_append_right _ (by rw [← hk]; exact List.mem_singleton.mpr rfl)
theorem mayF_new {one : List (List Int)} {row : List Int} (h : key row ∉ one.map key) (hl : one.length < 12) : mayF key one row = true := by
  unfold mayF
  cases e : one.getLast? with
  | none => rfl
  | some last =>
    have hm : last ∈ one := List.mem_of_getLast? e
    have : key last ≠ key row := fun z => h (by rw [← z]; exact List.mem_map.mpr ⟨last, hm, rfl⟩)
    show (decide (one.length < 12) && !decide (key last = key row)) = true
    rw [decide_eq_true hl, decide_eq_false this]
    rfl
theorem mayF_old {one : List (List Int)} {x row : List Int} (h : key x = key row) : mayF key (one ++ [x]) row = false := by
  unfold mayF
  rw [List.getLast?_concat]
  show (decide ((one ++ [x]).length < 12) && !decide (key x = key row)) = false
  rw [decide_eq_true h, Bool.not_true, Bool.and_false]
theorem group_P {κ : List Int} {ws : List (List (List Int))} (hw : ∀ one ∈ ws, κ ∉ one.map key) (hl : ∀ one ∈ ws, one.length < 12) : ∀ (G : List (List Int)) (ex : List (List (List Int))), (∀ row ∈ G, key row = κ) → (∀ one ∈ ex, ∃ a x, one = a ++ [x] ∧ key x = κ) →
    G.foldl (stepP key) (ws ++ ex) = (ws ++ ex) ++ G.flatMap fun row => ws.map fun one => one ++ [row]
  | [], ex, _, _ => by simp
  | row :: G, ex, hg, he => by
    have hk : key row = κ := hg row List.mem_cons_self
    have hf : (ws ++ ex).filter (fun one => mayF key one row) = ws := filter_two (fun a ha => mayF_new (by rw [hk]; exact hw a ha) (hl a ha)) fun b hb => by
      obtain ⟨a, x, rfl, hx⟩ := he b hb
      exact mayF_old (by rw [hx, hk])
    have st : stepP key (ws ++ ex) row = ws ++ (ex ++ ws.map fun one => one ++ [row]) := by
      unfold stepP
      rw [hf, List.append_assoc]
    rw [List.foldl_cons, st, group_P hw hl G _ (fun r hr => hg r (List.mem_cons_of_mem _ hr)) fun one ho => ?_, List.flatMap_cons]
    · simp only [List.append_assoc]
    · rcases List.mem_append.mp ho with z | z
      · exact he one z
      · obtain ⟨o, _, rfl⟩ := List.mem_map.mp z
        exact ⟨o, row, rfl, hk⟩
theorem flat_count {α β : Type} {f : α → List β} {n : Nat} : ∀ {l : List α}, (∀ a ∈ l, (f a).length = n) → (l.flatMap f).length = l.length * n
  | [], _ => by simp
  | a :: l, h => by
    rw [List.flatMap_cons, List.length_append, h a List.mem_cons_self, flat_count fun b hb => h b (List.mem_cons_of_mem _ hb), List.length_cons, Nat.succ_mul, Nat.add_comm]
/-- what every way is: rows of its own, not too many -/
theorem ways_all {S : List (List Int)} : ∀ (Ks : List (List Int)) (ws : List (List (List Int))), Ks.Nodup → (∀ κ ∈ Ks, ∀ one ∈ ws, κ ∉ one.map key) → (∀ one ∈ ws, one.length + Ks.length ≤ 11) → (∀ κ ∈ Ks, ∀ s ∈ S, key (κ ++ s) = κ) →
    (Ks.flatMap fun κ => S.map (κ ++ ·)).foldl (stepP key) ws = (Ks.flatMap fun κ => S.map (κ ++ ·)).foldl (stepW key) ws ∧ ((Ks.flatMap fun κ => S.map (κ ++ ·)).foldl (stepW key) ws).length = ws.length * (1 + S.length) ^ Ks.length
  | [], ws, _, _, _, _ => by simp
  | κ :: Ks, ws, nd, hw, hl, hk => by
    (obtain ⟨n1, n2⟩ := List.nodup_cons.mp nd)
    have hG : ∀ row ∈ S.map (κ ++ ·), key row = κ := fun row hr => by
      obtain ⟨s, hs, rfl⟩ := List.mem_map.mp hr
      exact hk κ List.mem_cons_self s hs
    have hw0 := hw κ List.mem_cons_self
    have hl0 : ∀ one ∈ ws, one.length < 12 := fun one ho => by
      have := hl one ho
      rw [List.length_cons] at this
      omega
    have gW := group_W hw0 (S.map (κ ++ ·)) [] hG (fun _ h => by cases h)
    have gP := group_P hw0 hl0 (S.map (κ ++ ·)) [] hG (fun _ h => by cases h)
    rw [List.append_nil] at gW gP
    rw [List.flatMap_cons, List.foldl_append, List.foldl_append, gW, gP]
    have inv : ∀ one ∈ ws ++ (S.map (κ ++ ·)).flatMap (fun row => ws.map fun one => one ++ [row]), one ∈ ws ∨ ∃ o ∈ ws, ∃ row, key row = κ ∧ one = o ++ [row] := fun one ho => by
      rcases List.mem_append.mp ho with z | z
      · exact .inl z
      · obtain ⟨row, hr, z⟩ := List.mem_flatMap.mp z
        obtain ⟨o, h1, rfl⟩ := List.mem_map.mp z
        exact .inr ⟨o, h1, row, hG row hr, rfl⟩
    obtain ⟨r1, r2⟩ := ways_all Ks (ws ++ (S.map (κ ++ ·)).flatMap (fun row => ws.map fun one => one ++ [row])) n2 (fun κ2 h2 one ho => by
      rcases inv one ho with z | ⟨o, h3, row, h4, rfl⟩
      · exact hw κ2 (List.mem_cons_of_mem _ h2) one z
      · rw [List.map_append, List.mem_append, not_or]
        refine ⟨hw κ2 (List.mem_cons_of_mem _ h2) o h3, fun z => ?_⟩
        have : κ2 = key row := List.mem_singleton.mp z
        rw [h4] at this
        exact n1 (by rw [← this]; exact h2)) (fun one ho => by
      rcases inv one ho with z | ⟨o, h3, row, h4, rfl⟩
      · have := hl one z
        rw [List.length_cons] at this
        omega
      · have := hl o h3
        rw [List.length_cons] at this
        (rw [List.length_append, List.length_singleton])
        omega) fun κ2 h2 => hk κ2 (List.mem_cons_of_mem _ h2)
    refine ⟨r1, ?_⟩
    rw [r2, List.length_append, flat_count (n := ws.length) fun a _ => by rw [List.length_map], List.length_map, List.length_cons, Nat.pow_succ, Nat.mul_comm ((1 + S.length) ^ Ks.length), ← Nat.mul_assoc, Nat.mul_add, Nat.mul_one, Nat.mul_comm S.length]
end
/-- both start with the empty way -/
theorem foldW_head {key : List Int → List Int} : ∀ (G : List (List Int)) (ws : List (List (List Int))), ∃ r, G.foldl (stepW key) ([] :: ws) = [] :: r
  | [], ws => ⟨ws, rfl⟩
  | row :: G, ws => by
    rw [List.foldl_cons]
    exact foldW_head G _
/-! ### the number of ways -/
theorem bn_gt : ∀ {n m : Nat}, n < m → bn n m = 0
  | 0, m + 1, _ => rfl
  | n + 1, m + 1, h => by
    show bn n m + bn n (m + 1) = 0
    rw [bn_gt (by omega), bn_gt (by omega)]
    rfl
theorem wz_gt {n m : Nat} {r : Int} (h : n < m) : wz n r m = 0 := by
  unfold wz
  rw [bn_gt h, Int.zero_mul]
theorem cont_pow (r : Int) : ∀ {n : Nat}, n ≤ 12 → cont n r = (1 + r) ^ n
  | 0, _ => by
    unfold cont
    rw [sw_front, wz_zero, sw_congr (g := fun _ => 0) fun k _ => wz_gt (by omega), sw_zero, Int.pow_zero]
    rfl
  | n + 1, h => by
    have ih := cont_pow r (n := n) (by omega)
    have e1 : cont (n + 1) r = cont n r + r * sw (wz n r) 12 := by
      unfold cont
      rw [sw_front, wz_zero, sw_congr (g := fun k => wz n r (k + 1) + r * wz n r k) fun k _ => wz_pascal n r k, sw_add, sw_mul, sw_front (wz n r) 12, wz_zero, Int.add_assoc]
    have e2 : sw (wz n r) 12 = cont n r := by
      show sw (wz n r) 12 = sw (wz n r) 12 + wz n r 12
      rw [wz_gt (by omega), Int.add_zero]
    rw [e1, e2, ih, Int.pow_succ, Int.mul_add, Int.mul_one, Int.mul_comm r]
theorem cut_key {cs : List PyData} {i : Int} (h0 : 0 ≤ i) : dSl (.tuple cs) none (some i) = some (.tuple (cs.take i.toNat)) := by
  have e : i = ((i.toNat : Nat) : Int) := (Int.toNat_of_nonneg h0).symm
  show some (PyData.tuple (cutD cs none (some i))) = _
  rw [e, cutD_take, ← e]
def encR (r : List Int) : PyData := .tuple (r.map .int)
def keyI (k : Nat) (r : List Int) : List Int := if k = 0 then r else r.take k
theorem layR : ∀ r : List Int, PyData.canLayAll0 (r.map .int) = true
  | [] => (by simp [PyData.canLayAll0])
  | i :: r => by
    rw [List.map_cons, PyData.canLayAll0, layR r]
    simp [PyData.canLay0]
theorem depR : ∀ r : List Int, PyData.depthAll (r.map .int) = 0
  | [] => (by simp [PyData.depthAll])
  | i :: r => by
    rw [List.map_cons, PyData.depthAll, depR r]
    simp [PyData.depth]
theorem shapedR (r : List Int) : SeqAt.shaped (encR r) = true := by
  unfold SeqAt.shaped encR
  rw [Bool.and_eq_true, PyData.canLay0, PyData.depth, depR]
  exact ⟨layR r, rfl⟩
theorem layRs : ∀ rs : List (List Int), PyData.canLayAll0 (rs.map encR) = true
  | [] => (by simp [PyData.canLayAll0])
  | r :: rs => by
    rw [List.map_cons, PyData.canLayAll0, layRs rs, Bool.and_true]
    exact (Bool.and_eq_true_iff.mp (shapedR r)).1
theorem depRs : ∀ rs : List (List Int), PyData.depthAll (rs.map encR) ≤ 1
  | [] => (by simp [PyData.depthAll])
  | r :: rs => by
    have u : PyData.depthAll ((r :: rs).map encR) = max (encR r).depth (PyData.depthAll (rs.map encR)) := by rw [List.map_cons]; rfl
    have e : (encR r).depth = 1 := by
      unfold encR
      rw [PyData.depth, depR]
    have := depRs rs
    omega
theorem shapedRs (rs : List (List Int)) : SeqAt.shaped (.list (rs.map encR)) = true := by
  unfold SeqAt.shaped
  have := depRs rs
  rw [Bool.and_eq_true, PyData.canLay0, PyData.depth]
  exact ⟨layRs rs, decide_eq_true (by omega)⟩
theorem eqvR : ∀ x y : List Int, PyData.eqvAll (x.map .int) (y.map .int) = decide (x = y)
  | [], [] => (by simp [PyData.eqvAll])
  | [], _ :: _ => (by simp [PyData.eqvAll])
  | _ :: _, [] => (by simp [PyData.eqvAll])
  | a :: x, b :: y => by
    rw [List.map_cons, List.map_cons, PyData.eqvAll, eqvR x y, PyData.eqv]
    by_cases h1 : a = b
    · by_cases h2 : x = y <;> simp [h1, h2]
    · simp [h1]
theorem eqvRs : ∀ x y : List (List Int), PyData.eqvAll (x.map encR) (y.map encR) = decide (x = y)
  | [], [] => (by simp [PyData.eqvAll])
  | [], _ :: _ => (by simp [PyData.eqvAll])
  | _ :: _, [] => (by simp [PyData.eqvAll])
  | a :: x, b :: y => by
    rw [List.map_cons, List.map_cons, PyData.eqvAll, eqvRs x y]
    show (PyData.eqv (.tuple (a.map .int)) (.tuple (b.map .int)) && _) = _
    rw [PyData.eqv, eqvR]
    by_cases h1 : a = b
    · by_cases h2 : x = y <;> simp [h1, h2]
    · simp [h1]
theorem dNeR (x y : List Int) : dNe (encR x) (encR y) = some (.bool (!decide (x = y))) := by
  rw [dNe, if_pos ⟨shapedR x, shapedR y⟩]
  show some (PyData.bool (!PyData.eqv (.tuple (x.map .int)) (.tuple (y.map .int)))) = _
  rw [PyData.eqv, eqvR]
theorem alikeR : ∀ x y : List Int, PySem.W.alikeAll (x.map .int) (y.map .int) = true
  | [], _ => by rw [List.map_nil, PySem.W.alikeAll]
  | _ :: _, [] => by rw [List.map_cons, List.map_nil, PySem.W.alikeAll]
  | a :: x, b :: y => by
    rw [List.map_cons, List.map_cons, PySem.W.alikeAll, alikeR x y]
    simp [PySem.W.alike]
theorem key_of_eq (t : Tab) (r : List Int) : fm_key_of [t.enc, encR r] = some (encR (keyI t.key r)) := by
  unfold fm_key_of mb_key_of
  have k1 : mBin dIx (mVar 0) (mC (.int 1)) [some t.enc, some (encR r), none] = some (.int t.key) := ev_bin rfl rfl rfl
  refine ev_run (d := encR (keyI t.key r)) (ev_set k1 (ev_ret ?_)) rfl
  unfold keyI
  by_cases z : t.key = 0
  · rw [if_pos z]
    refine ev_iF (ev_tst (ev_bin rfl rfl ?_)) rfl
    rw [dGt_int, decide_eq_false (by omega)]
  · rw [if_neg z]
    refine ev_iT (ev_tst (ev_bin rfl rfl ?_)) (ev_sl rfl rfl (ev_part rfl) ?_)
    · rw [dGt_int, decide_eq_true (by omega)]
    · show dSl (.tuple (r.map .int)) none (some ((t.key : Nat) : Int)) = _
      rw [cut_key (Int.natCast_nonneg _), Int.toNat_natCast, ← List.map_take]
      rfl
theorem ev_orTrue {ma mb : En → Option PyData} {env : En} {d : PyData} (h : ma env = some d) (t : truD d = some true) : mOr ma mb env = some d := by
  unfold mOr
  rw [h, Option.bind_some, t]
  rfl
theorem ev_orFalse {ma mb : En → Option PyData} {env : En} {d : PyData} {o : Option PyData} (h : ma env = some d) (t : truD d = some false) (h2 : mb env = o) : mOr ma mb env = o := by
  unfold mOr
  rw [h, Option.bind_some, t]
  exact h2
theorem key_or (t : Tab) {r : List Int} (hr : r ≠ []) {env : En} {mt mr : En → Option PyData} (h1 : mt env = some t.enc) (h2 : mr env = some (encR r)) : mOr (mSl mr mNoPart (mPart (mBin dIx mt (mC (.int 1))))) mr env = some (encR (keyI t.key r)) := by
  have sl : mSl mr mNoPart (mPart (mBin dIx mt (mC (.int 1)))) env = some (encR (r.take t.key)) := by
    refine ev_sl h2 rfl (ev_part (i := (t.key : Nat)) (ev_bin h1 rfl rfl)) ?_
    show dSl (.tuple (r.map .int)) none (some ((t.key : Nat) : Int)) = _
    rw [cut_key (Int.natCast_nonneg _), Int.toNat_natCast, ← List.map_take]
    rfl
  unfold keyI
  by_cases z : t.key = 0
  · rw [if_pos z]
    rw [z, List.take_zero] at sl
    exact ev_orFalse sl rfl h2
  · rw [if_neg z]
    refine ev_orTrue sl ?_
    cases r with
    | nil => exact absurd rfl hr
    | cons i r =>
      obtain ⟨k, hk⟩ := Nat.exists_eq_succ_of_ne_zero z
      rw [hk, List.take_succ_cons]
      rfl
/-! ### the rows of a table, by the program and by the law -/
theorem vals_enc (c : Col) : (valsC c).map PyData.int = rangeD (if c.op then -1 else 0) c.many.toNat := by
  unfold valsC rangeD
  rw [List.map_map]
  rfl
theorem encR_app (r : List Int) (v : Int) : encR (r ++ [v]) = .tuple (r.map .int ++ [.int v]) := by
  unfold encR
  rw [List.map_append]
  rfl
/-- a comprehension over things of one kind, filtered -/
theorem lc_typed {α : Type} {enc : α → PyData} {p : α → Bool} {f : α → PyData} {bind : PyData → En → Option En} {mt : En → Option Bool} {me : En → Option PyData} {env : En} : ∀ {as : List α}, (∀ a ∈ as, ∃ e1, bind (enc a) env = some e1 ∧ mt e1 = some (p a) ∧ (p a = true → me e1 = some (f a))) → lcD bind mt me env (as.map enc) = some ((as.filter p).map f)
  | [], _ => rfl
  | a :: as, h => by
    obtain ⟨e1, h1, h2, h3⟩ := h a List.mem_cons_self
    have ih := lc_typed (f := f) (p := p) (as := as) fun x hx => h x (List.mem_cons_of_mem _ hx)
    show ((bind (enc a) env).bind _) = _
    rw [h1, Option.bind_some, h2, Option.bind_some]
    cases hp : p a with
    | true =>
      rw [if_pos rfl, h3 hp, Option.bind_some, ih, List.filter_cons, if_pos hp]
      rfl
    | false =>
      rw [if_neg Bool.false_ne_true, ih, List.filter_cons, if_neg (by rw [hp]; exact Bool.false_ne_true)]
theorem lc_all {α : Type} {enc : α → PyData} {f : α → PyData} {bind : PyData → En → Option En} {me : En → Option PyData} {env : En} {as : List α} (h : ∀ a ∈ as, ∃ e1, bind (enc a) env = some e1 ∧ me e1 = some (f a)) : lcD bind mYes me env (as.map enc) = some (as.map f) := by
  have := lc_typed (enc := enc) (p := fun _ => true) (f := f) (bind := bind) (mt := mYes) (me := me) (env := env) (as := as) fun a ha => by
    obtain ⟨e1, h1, h2⟩ := h a ha
    exact ⟨e1, h1, rfl, fun _ => h2⟩
  rw [this, List.filter_eq_self.mpr fun _ _ => rfl]
/-- two fors -/
theorem lc2_all {α β : Type} {enc : α → PyData} {enb : β → PyData} {f : α → β → PyData} {j : Nat} {vs1 : List Nat} {mi1 : En → Option (List PyData)} {bnd1 : PyData → En → Option En} {me : En → Option PyData} {env : En} {bs : List β} : ∀ {as : List α}, (∀ a ∈ as, mi1 (env.set j (some (enc a))) = some (bs.map enb)) → (∀ a ∈ as, ∀ b ∈ bs, ∃ e1, bnd1 (enb b) (wipeD (env.set j (some (enc a))) vs1) = some e1 ∧ me e1 = some (f a b)) →
    lc2D j mYes vs1 mi1 bnd1 mYes me env (as.map enc) = some (as.flatMap fun a => bs.map (f a))
  | [], _, _ => rfl
  | a :: as, h1, h2 => by
    have ih := lc2_all (f := f) (me := me) (bnd1 := bnd1) (vs1 := vs1) (as := as) (fun x hx => h1 x (List.mem_cons_of_mem _ hx)) (fun x hx => h2 x (List.mem_cons_of_mem _ hx))
    have l1 := lc_all (enc := enb) (f := f a) (bind := bnd1) (me := me) (env := wipeD (env.set j (some (enc a))) vs1) (as := bs) (h2 a List.mem_cons_self)
    show (if true = true then (mi1 (env.set j (some (enc a)))).bind fun es => (lcD bnd1 mYes me (wipeD (env.set j (some (enc a))) vs1) es).bind fun r1 => (lc2D j mYes vs1 mi1 bnd1 mYes me env (as.map enc)).bind fun r => some (r1 ++ r) else lc2D j mYes vs1 mi1 bnd1 mYes me env (as.map enc)) = _
    rw [if_pos rfl, h1 a List.mem_cons_self, Option.bind_some, l1, Option.bind_some, ih, Option.bind_some, List.flatMap_cons]
theorem ev_lc2 {vs vs1 : List Nat} {mi mi1 : En → Option (List PyData)} {j : Nat} {mt mt1 : En → Option Bool} {bnd1 : PyData → En → Option En} {me : En → Option PyData} {env : En} {ds es : List PyData} (h : mi env = some ds) (hl : lc2D j mt vs1 mi1 bnd1 mt1 me (wipeD env vs) ds = some es) (hz : es.length ≤ sizeLine) : mLc2 vs mi j mt vs1 mi1 bnd1 mt1 me env = some (.list es) := by
  unfold mLc2
  rw [h, Option.bind_some, hl, Option.bind_some, if_pos hz]
theorem ev_star {m : En → Option PyData} {ms : En → Option (List PyData)} {env : En} {xs ds : List PyData} (h1 : m env = some (.tuple xs)) (h2 : ms env = some ds) : mStar m ms env = some (xs ++ ds) := by
  unfold mStar
  rw [h1, Option.bind_some, h2]
  rfl
theorem rows_mono : ∀ (cs : List Col), (∀ c ∈ cs, c.Ok) → ∀ i, prodM (cs.take i) ≤ prodM cs := fun cs h i => by
  have e : prodM cs = prodM (cs.take i) * prodM (cs.drop i) := by rw [← prodM_app, List.take_append_drop]
  have h1 := prodM_pos (cs := cs.take i) fun c hc => h c (List.mem_of_mem_take hc)
  have h2 := prodM_pos (cs := cs.drop i) fun c hc => h c (List.mem_of_mem_drop hc)
  have := Int.mul_le_mul_of_nonneg_left h2 (show 0 ≤ prodM (cs.take i) by omega)
  omega
theorem rowsL_take {cs : List Col} {i : Nat} {c : Col} (h : cs[i]? = some c) : rowsL (cs.take (i + 1)) = stepR (rowsL (cs.take i)) c := by
  unfold rowsL
  (rw [List.take_add_one, h, List.foldl_append])
  rfl
theorem rowsL_few {cs : List Col} (h : ∀ c ∈ cs, c.Ok) (hp : prodM cs ≤ 90000) (i : Nat) : (rowsL (cs.take i)).length ≤ 90000 := by
  have h1 := rowsL_count (cs := cs.take i) fun c hc => h c (List.mem_of_mem_take hc)
  have h2 := rows_mono cs h i
  omega
theorem rowsL_short {cs : List Col} (hn : cs.length ≤ 4) (i : Nat) : ∀ r ∈ rowsL (cs.take i), r.length ≤ 4 := fun r hr => by
  have := rowsL_len r hr
  rw [List.length_take] at this
  omega
theorem possible_rows_eq {t : Tab} (h : ∀ c ∈ t.cols, c.Ok) (hn : t.cols.length ≤ 4) (hp : prodM t.cols ≤ 90000) : fm_possible_rows [t.enc] = some (.list ((rowsL t.cols).map encR)) := by
  have loop : ∃ e', loopD (gB 2) lb1_possible_rows (t.cols.map Col.enc) [some t.enc, some (.list ((rowsL (t.cols.take 0)).map encR)), none, none, none] = some (.nx e') ∧ ∃ z, e' = [some t.enc, some (.list ((rowsL (t.cols.take (t.cols.map Col.enc).length)).map encR)), z, none, none] := by
    refine loop_inv (fun i e => ∃ z, e = [some t.enc, some (.list ((rowsL (t.cols.take i)).map encR)), z, none, none]) ⟨none, rfl⟩ fun i d e hd hi => ?_
    obtain ⟨z, rfl⟩ := hi
    rw [List.getElem?_map] at hd
    cases hc : t.cols[i]? with
    | none =>
      rw [hc] at hd
      cases hd
    | some c =>
      rw [hc] at hd
      cases hd
      have ok : c.Ok := h c (List.mem_of_getElem? hc)
      refine ⟨_, [some t.enc, some (.list ((rowsL (t.cols.take (i + 1))).map encR)), some c.enc, none, none], rfl, .inl ?_, some c.enc, rfl⟩
      unfold lb1_possible_rows
      refine ev_set1 (d := .list ((rowsL (t.cols.take (i + 1))).map encR)) ?_ rfl
      refine ev_lc2 (ds := (rowsL (t.cols.take i)).map encR) (ev_it rfl rfl) ?_ (by rw [List.length_map]; exact line_big (by have := rowsL_few h hp (i + 1); omega))
      rw [rowsL_take hc]
      refine (lc2_all (enc := encR) (enb := PyData.int) (f := fun r v => encR (r ++ [v])) (bs := valsC c) (fun r _ => ?_) (fun r hr v _ => ⟨_, gB_ap _ _ _, ?_⟩)).trans ?_
      · refine ev_it (d := .list ((valsC c).map .int)) (ev_cb (ev_cons (d := c.enc) rfl rfl) ?_) rfl
        rw [column_values_eq ok, vals_enc]
      · rw [encR_app]
        refine ev_tup (ev_star (xs := r.map .int) rfl (ev_cons rfl rfl)) (line_big ?_)
        have := rowsL_short hn i r hr
        rw [List.length_append, List.length_map]
        show r.length + 1 ≤ _
        omega
      · unfold stepR
        rw [List.map_flatMap]
        simp only [List.map_map]
        rfl
  obtain ⟨e', h1, z, rfl⟩ := loop
  unfold fm_possible_rows mb_possible_rows
  refine ev_run (d := .list ((rowsL t.cols).map encR)) ?_ rfl
  refine ev_set (d := .list ((rowsL (t.cols.take 0)).map encR)) (ev_lst (ev_cons (d := encR []) (ev_tup rfl (Nat.zero_le _)) rfl) (show 1 ≤ sizeLine by decide)) ?_
  refine ev_for (ds := t.cols.map Col.enc) (ev_it (ev_bin rfl rfl rfl) rfl) h1 ?_
  (rw [List.length_map, List.take_length])
  exact ev_ret rfl
theorem law_possible_step {t : Tab} {c : Col} (ok : c.Ok) {rows : List (List Int)} {z4 z5 : Option PyData} (hs : ∀ r ∈ rows, r.length ≤ 4) (hl : (stepR rows c).length ≤ 90000) : ∃ z, lb2_law_possible [some t.enc, some (.list (rows.map encR)), some c.enc, z4, z5, none] = some (.nx [some t.enc, some (.list ((stepR rows c).map encR)), some c.enc, some (.list ((stepR rows c).map encR)), z, none]) := by
  have hm := ok.many
  have loop : ∃ e', loopD (gB 4) lb1_law_possible (rows.map encR) [some t.enc, some (.list (rows.map encR)), some c.enc, some (.list ((stepR (rows.take 0) c).map encR)), z5, none] = some (.nx e') ∧ ∃ z, e' = [some t.enc, some (.list (rows.map encR)), some c.enc, some (.list ((stepR (rows.take (rows.map encR).length) c).map encR)), z, none] := by
    refine loop_inv (fun i e => ∃ z, e = [some t.enc, some (.list (rows.map encR)), some c.enc, some (.list ((stepR (rows.take i) c).map encR)), z, none]) ⟨z5, rfl⟩ fun i d e hd hi => ?_
    obtain ⟨z, rfl⟩ := hi
    rw [List.getElem?_map] at hd
    cases hr : rows[i]? with
    | none =>
      rw [hr] at hd
      cases hd
    | some r =>
      rw [hr] at hd
      cases hd
      have hx := hs r (List.mem_of_getElem? hr)
      have e2 : stepR (rows.take (i + 1)) c = stepR (rows.take i) c ++ (valsC c).map fun v => r ++ [v] := by
        unfold stepR
        rw [List.take_add_one, hr, List.flatMap_append]
        simp
      have few : (stepR (rows.take (i + 1)) c).length ≤ 90000 := by
        rw [stepR_count] at hl ⊢
        have : (rows.take (i + 1)).length ≤ rows.length := by rw [List.length_take]; omega
        have := Nat.mul_le_mul_right c.many.toNat this
        omega
      refine ⟨_, [some t.enc, some (.list (rows.map encR)), some c.enc, some (.list ((stepR (rows.take (i + 1)) c).map encR)), some (encR r), none], rfl, .inl ?_, some (encR r), rfl⟩
      unfold lb1_law_possible
      refine ev_set1 (d := .list ((stepR (rows.take (i + 1)) c).map encR)) ?_ rfl
      rw [e2] at few ⊢
      refine ev_bin (a := .list ((stepR (rows.take i) c).map encR)) (b := .list (((valsC c).map fun v => r ++ [v]).map encR)) rfl ?_ ?_
      · refine ev_lc (ds := (valsC c).map .int) ?_ ?_ ?_
        · refine ev_rng (ds := [.int (0 - b2 c.op), .int c.size]) (ev_cons (ev_bin (a := .int 0) (b := .int (b2 c.op)) rfl (ev_cb (ev_cons (d := .bool c.op) (ev_bin rfl rfl rfl) rfl) (bInt_bool c.op)) rfl) (ev_cons (ev_bin rfl rfl rfl) rfl)) ?_
          obtain ⟨n, s, o⟩ := c
          obtain ⟨h1, h2⟩ := ok
          simp only at h1 h2
          have hb := b2_le o
          show (if -(2 ^ 62) ≤ (0 - b2 o) ∧ (0 - b2 o) < 2 ^ 62 ∧ -(2 ^ 62) ≤ s ∧ s < 2 ^ 62 then some (rangeD (0 - b2 o) (s - (0 - b2 o)).toNat) else none) = _
          rw [if_pos ⟨by omega, by omega, by omega, by omega⟩, vals_enc]
          have e3 : (0 - b2 o) = (if o = true then (-1 : Int) else 0) := by cases o <;> rfl
          have e4 : (s - (0 - b2 o)).toNat = (s + b2 o).toNat := by congr 1; omega
          show some (rangeD (0 - b2 o) (s - (0 - b2 o)).toNat) = _
          rw [e4, e3]
          rfl
        · rw [List.map_map]
          refine lc_all (enc := PyData.int) (f := encR ∘ fun v => r ++ [v]) fun v _ => ⟨_, gB_ap _ _ _, ?_⟩
          show mBin dAdd (mVar 4) (mTup (mCons (mVar 5) mNil)) _ = some (encR (r ++ [v]))
          rw [encR_app]
          refine ev_bin (a := .tuple (r.map .int)) (b := .tuple [.int v]) rfl rfl ?_
          refine if_pos (line_big ?_)
          rw [List.length_map]
          show r.length + 1 ≤ _
          omega
        · rw [List.length_map]
          refine line_big ?_
          rw [List.length_append] at few
          omega
      · rw [List.map_append]
        refine dAdd_list ?_
        rw [List.length_append] at few
        rw [List.length_map, List.length_map]
        omega
  obtain ⟨e', h1, z, rfl⟩ := loop
  rw [List.length_map, List.take_length] at h1
  refine ⟨z, ?_⟩
  unfold lb2_law_possible
  refine ev_set (d := .list []) (ev_lst rfl (Nat.zero_le _)) ?_
  refine ev_for (ds := rows.map encR) (ev_it rfl rfl) h1 ?_
  exact ev_set1 (d := .list ((stepR rows c).map encR)) rfl rfl
theorem law_possible_eq {t : Tab} (h : ∀ c ∈ t.cols, c.Ok) (hn : t.cols.length ≤ 4) (hp : prodM t.cols ≤ 90000) : fm_law_possible [t.enc] = some (.list ((rowsL t.cols).map encR)) := by
  have loop : ∃ e', loopD (gB 2) lb2_law_possible (t.cols.map Col.enc) [some t.enc, some (.list ((rowsL (t.cols.take 0)).map encR)), none, none, none, none] = some (.nx e') ∧ ∃ z2 z3 z4, e' = [some t.enc, some (.list ((rowsL (t.cols.take (t.cols.map Col.enc).length)).map encR)), z2, z3, z4, none] := by
    refine loop_inv (fun i e => ∃ z2 z3 z4, e = [some t.enc, some (.list ((rowsL (t.cols.take i)).map encR)), z2, z3, z4, none]) ⟨none, none, none, rfl⟩ fun i d e hd hi => ?_
    obtain ⟨z2, z3, z4, rfl⟩ := hi
    rw [List.getElem?_map] at hd
    cases hc : t.cols[i]? with
    | none =>
      rw [hc] at hd
      cases hd
    | some c =>
      rw [hc] at hd
      cases hd
      have ok : c.Ok := h c (List.mem_of_getElem? hc)
      obtain ⟨z, st⟩ := law_possible_step (t := t) ok (z4 := z3) (z5 := z4) (rowsL_short hn i) (by rw [← rowsL_take hc]; exact rowsL_few h hp (i + 1))
      rw [← rowsL_take hc] at st
      exact ⟨_, _, rfl, .inl st, _, _, _, rfl⟩
  obtain ⟨e', h1, z2, z3, z4, rfl⟩ := loop
  unfold fm_law_possible mb_law_possible
  refine ev_run (d := .list ((rowsL t.cols).map encR)) ?_ rfl
  refine ev_set (d := .list ((rowsL (t.cols.take 0)).map encR)) (ev_lst (ev_cons (d := encR []) (ev_tup rfl (Nat.zero_le _)) rfl) (show 1 ≤ sizeLine by decide)) ?_
  refine ev_for (ds := t.cols.map Col.enc) (ev_it (ev_bin rfl rfl rfl) rfl) h1 ?_
  (rw [List.length_map, List.take_length])
  exact ev_ret rfl
/-! ### the ways of a table -/
theorem keyI_join {t : Tab} (hk : t.key ≤ t.cols.length) : ∀ κ ∈ rowsL t.kc, ∀ s ∈ rowsL t.rc, keyI t.key (κ ++ s) = κ := fun κ h1 s h2 => by
  have l1 := rowsL_len κ h1
  have l2 := rowsL_len s h2
  unfold Tab.kc at l1
  unfold Tab.rc at l2
  unfold keyI
  by_cases z : t.key = 0
  · rw [if_pos z] at l2 ⊢
    have : s = [] := List.length_eq_zero_iff.mp l2
    rw [this, List.append_nil]
  · rw [if_neg z] at l1 ⊢
    rw [List.length_take, Nat.min_eq_left hk] at l1
    rw [← l1, List.take_left]
theorem rows_split (t : Tab) : rowsL t.cols = (rowsL t.kc).flatMap fun κ => (rowsL t.rc).map (κ ++ ·) := by
  have := rowsL_app t.kc t.rc
  rw [t.split] at this
  exact this
def WT (t : Tab) : List (List (List Int)) := (rowsL t.cols).foldl (stepW (keyI t.key)) [[]]
theorem kn_len {t : Tab} (h : t.Ok) : (rowsL t.kc).length = t.kn := by
  have h1 := rowsL_count h.kOk
  have h2 := h.kn.1
  omega
theorem rn_len {t : Tab} (h : t.Ok) : ((rowsL t.rc).length : Int) = t.rn := rowsL_count h.rOk
theorem WT_all {t : Tab} (h : t.Ok) (hs : prodM t.cols ≤ 9) : (rowsL t.cols).foldl (stepP (keyI t.key)) [[]] = WT t ∧ ((WT t).length : Int) = cont t.kn t.rn := by
  have kl := kn_len h
  have kb : t.kn ≤ 9 := by
    have e : prodM t.cols = prodM t.kc * prodM t.rc := by rw [← prodM_app, t.split]
    have h1 := h.kn.1
    have h2 : 1 ≤ prodM t.rc := prodM_pos h.rOk
    have h3 := Int.mul_le_mul_of_nonneg_left h2 (show 0 ≤ prodM t.kc by omega)
    omega
  obtain ⟨r1, r2⟩ := ways_all (key := keyI t.key) (S := rowsL t.rc) (rowsL t.kc) [[]] (rowsL_nodup _) (fun κ _ one ho => by
    rw [List.mem_singleton.mp ho]
    simp) (fun one ho => by
    rw [List.mem_singleton.mp ho, List.length_nil]
    omega) (keyI_join h.key)
  rw [← rows_split] at r1 r2
  refine ⟨r1, ?_⟩
  unfold WT
  rw [r2, cont_pow t.rn (show t.kn ≤ 12 by omega), kl, ← rn_len h]
  simp
theorem WT_head (t : Tab) : ∃ r, WT t = [] :: r := foldW_head _ _
theorem foldW_few {key : List Int → List Int} : ∀ (G : List (List Int)) (ws : List (List (List Int))), (G.foldl (stepW key) ws).length ≤ ws.length * 2 ^ G.length
  | [], ws => by simp
  | row :: G, ws => by
    have h1 := foldW_few (key := key) G (stepW key ws row)
    have h2 : (stepW key ws row).length ≤ ws.length * 2 := by
      unfold stepW
      have := List.length_filter_le (fun one => decide (key row ∉ one.map key)) ws
      rw [List.length_append, List.length_map]
      omega
    rw [List.foldl_cons, List.length_cons, Nat.pow_succ, Nat.mul_comm (2 ^ G.length) 2, ← Nat.mul_assoc]
    exact Nat.le_trans h1 (Nat.mul_le_mul_right _ h2)
theorem foldP_few {key : List Int → List Int} : ∀ (G : List (List Int)) (ws : List (List (List Int))), (G.foldl (stepP key) ws).length ≤ ws.length * 2 ^ G.length
  | [], ws => by simp
  | row :: G, ws => by
    have h1 := foldP_few (key := key) G (stepP key ws row)
    have h2 : (stepP key ws row).length ≤ ws.length * 2 := by
      unfold stepP
      have := List.length_filter_le (fun one => mayF key one row) ws
      rw [List.length_append, List.length_map]
      omega
    rw [List.foldl_cons, List.length_cons, Nat.pow_succ, Nat.mul_comm (2 ^ G.length) 2, ← Nat.mul_assoc]
    exact Nat.le_trans h1 (Nat.mul_le_mul_right _ h2)
theorem rowsL_nine {t : Tab} (h : t.Ok) (hs : prodM t.cols ≤ 9) : (rowsL t.cols).length ≤ 9 := by
  have := rowsL_count h.cols
  omega
theorem WT_few {t : Tab} (h : t.Ok) : (WT t).length ≤ 2 ^ (prodM t.cols).toNat := by
  have h1 := foldW_few (key := keyI t.key) (rowsL t.cols) [[]]
  have h2 := rowsL_count h.cols
  have e : (prodM t.cols).toNat = (rowsL t.cols).length := by omega
  rw [e]
  unfold WT
  simpa using h1
theorem pow_512 {n : Nat} (h : n ≤ 9) : 2 ^ n ≤ 512 := Nat.le_trans (Nat.pow_le_pow_right (by decide) h) (by decide)
/-- every way has few rows, none of them empty -/
theorem foldW_rows {key : List Int → List Int} {p : List Int → Prop} : ∀ (G : List (List Int)) (ws : List (List (List Int))) (n : Nat), (∀ r ∈ G, p r) → (∀ one ∈ ws, one.length ≤ n ∧ ∀ r ∈ one, p r) → ∀ one ∈ G.foldl (stepW key) ws, one.length ≤ n + G.length ∧ ∀ r ∈ one, p r
  | [], ws, n, _, h => h
  | row :: G, ws, n, hg, h => fun one ho => by
    have := foldW_rows (key := key) (p := p) G (stepW key ws row) (n + 1) (fun r hr => hg r (List.mem_cons_of_mem _ hr)) (fun o h2 => by
      unfold stepW at h2
      rcases List.mem_append.mp h2 with z | z
      · exact ⟨by have := (h o z).1; omega, (h o z).2⟩
      · obtain ⟨a, h3, rfl⟩ := List.mem_map.mp z
        have h4 := h a (List.mem_filter.mp h3).1
        (rw [List.length_append, List.length_singleton])
        refine ⟨by have := h4.1; omega, fun r hr => ?_⟩
        rcases List.mem_append.mp hr with z | z
        · exact h4.2 r z
        · (rw [List.mem_singleton.mp z])
          exact hg row List.mem_cons_self) one ho
    rw [List.length_cons]
    exact ⟨by have := this.1; omega, this.2⟩
/-! ### as data -/
def encW (one : List (List Int)) : PyData := .tuple (one.map encR)
theorem encW_app (one : List (List Int)) (row : List Int) : encW (one ++ [row]) = .tuple (one.map encR ++ [encR row]) := by
  unfold encW
  rw [List.map_append]
  rfl
theorem alikeW : ∀ x y : List (List Int), PySem.W.alikeAll (x.map encR) (y.map encR) = true
  | [], _ => by rw [List.map_nil, PySem.W.alikeAll]
  | _ :: _, [] => by rw [List.map_cons, List.map_nil, PySem.W.alikeAll]
  | a :: x, b :: y => by
    rw [List.map_cons, List.map_cons, PySem.W.alikeAll, alikeW x y, Bool.and_true]
    unfold encR
    rw [PySem.W.alike, alikeR]
theorem depW (one : List (List Int)) : (encW one).depth ≤ 2 := by
  have := depRs one
  unfold encW
  rw [PyData.depth]
  omega
theorem layW (one : List (List Int)) : (encW one).canLay0 = true := by
  unfold encW
  rw [PyData.canLay0]
  exact layRs one
def CN (t : Tab) : List PyData := ((WT t).map encW).mergeSort (PySem.W.dataLe false id)
theorem CN_len (t : Tab) : (CN t).length = (WT t).length := by
  unfold CN
  rw [List.length_mergeSort, List.length_map]
theorem CN_mem {t : Tab} {d : PyData} (h : d ∈ CN t) : ∃ one, d = encW one := by
  unfold CN at h
  obtain ⟨one, _, e⟩ := List.mem_map.mp (List.mem_mergeSort.mp h)
  exact ⟨one, e.symm⟩
theorem sort_WT (t : Tab) : bSortE [.list ((WT t).map encW)] = some (.list (CN t)) := by
  unfold CN
  obtain ⟨r, hr⟩ := WT_head t
  rw [hr, List.map_cons]
  show (if PySem.W.AllAlike (.tuple [] :: r.map encW) ∧ (r.map encW).all isTup = true ∧ depthOk (r.map encW) = true then some (PyData.list ((PyData.tuple [] :: r.map encW).mergeSort (PySem.W.dataLe false id))) else none) = _
  have e0 : (PyData.tuple [] :: r.map encW) = (([] : List (List Int)) :: r).map encW := rfl
  rw [if_pos]
  · rfl
  · refine ⟨fun d hd d2 hd2 => ?_, List.all_eq_true.mpr fun d hd => ?_, List.all_eq_true.mpr fun d hd => decide_eq_true ?_⟩
    · rw [e0] at hd hd2
      obtain ⟨x, _, rfl⟩ := List.mem_map.mp hd
      obtain ⟨y, _, rfl⟩ := List.mem_map.mp hd2
      unfold encW
      rw [PySem.W.alike]
      exact alikeW x y
    · obtain ⟨x, _, rfl⟩ := List.mem_map.mp hd
      rfl
    · obtain ⟨x, _, rfl⟩ := List.mem_map.mp hd
      have := depW x
      omega
/-! ### by the program -/
theorem truT (xs : List PyData) : truD (.tuple xs) = some (!xs.isEmpty) := rfl
theorem may_follow_eq (t : Tab) (one : List (List Int)) (row : List Int) : fm_may_follow [t.enc, encW one, encR row] = some (.bool (mayF (keyI t.key) one row)) := by
  unfold fm_may_follow mb_may_follow
  refine ev_run (d := .bool (mayF (keyI t.key) one row)) ?_ rfl
  cases e : one.getLast? with
  | none =>
    have : one = [] := List.getLast?_eq_none_iff.mp e
    subst this
    exact ev_ifR (ev_notT (b := false) (ev_tru (d := encW []) rfl rfl)) (ev_ret rfl)
  | some last =>
    obtain ⟨pre, hp⟩ := List.getLast?_eq_some_iff.mp e
    subst hp
    refine ev_ifF (env' := [some t.enc, some (encW (pre ++ [last])), some (encR row)]) (ev_notT (b := true) (ev_tru (d := encW (pre ++ [last])) rfl ?_)) rfl (ev_ret ?_)
    · rw [encW_app, truT]
      simp
    · unfold mayF
      rw [e]
      have l1 : mBin dLt (mCB bLen (mCons (mVar 1) mNil)) (mC c_MOST_IN_TABLE) [some t.enc, some (encW (pre ++ [last])), some (encR row)] = some (.bool (decide ((pre ++ [last]).length < 12))) := by
        refine ev_bin (a := .int ((pre ++ [last]).length : Nat)) (b := .int 12) (ev_cb (ev_cons rfl rfl) ?_) rfl ?_
        · show some (PyData.int (((pre ++ [last]).map encR).length : Nat)) = _
          rw [List.length_map]
        · rw [dLt_int]
          congr 2
          (exact decide_eq_decide.mpr (by omega))
      have ix : dIx (encW (pre ++ [last])) (.int (-1)) = some (encR last) := by
        rw [encW_app]
        show atI (pre.map encR ++ [encR last]) (-1) = _
        unfold atI ixN
        simp only [List.length_append, List.length_map, List.length_singleton]
        have e5 : (-1 + ((pre.length + 1 : Nat) : Int)).toNat = pre.length := by omega
        simp
        rw [if_pos (by omega), Option.bind_some]
        have e6 : (-1 + ((pre.length : Int) + 1)).toNat = (pre.map encR).length := by rw [List.length_map]; omega
        rw [e6, List.getElem?_concat_length]
      exact ev_andV l1 (ev_bin (ev_cb (ev_cons rfl (ev_cons (d := encR last) (ev_bin (b := .int (-1)) rfl rfl ix) rfl)) (key_of_eq t last)) (ev_cb (ev_cons rfl (ev_cons rfl rfl)) (key_of_eq t row)) (dNeR _ _))
theorem all_contents_eq {t : Tab} (h : t.Ok) (hs : prodM t.cols ≤ 9) : fm_all_contents [t.enc] = some (.list (CN t)) := by
  have rc := rowsL_nine h hs
  have fw : ∀ i, (((rowsL t.cols).take i).foldl (stepP (keyI t.key)) [[]]).length ≤ 512 := fun i => by
    have := foldP_few (key := keyI t.key) ((rowsL t.cols).take i) [[]]
    have h2 := pow_512 (n := ((rowsL t.cols).take i).length) (by rw [List.length_take]; omega)
    simp only [List.length_singleton, Nat.one_mul] at this
    omega
  have loop : ∃ e', loopD (gB 2) lb1_all_contents ((rowsL t.cols).map encR) [some t.enc, some (.list ((((rowsL t.cols).take 0).foldl (stepP (keyI t.key)) [[]]).map encW)), none, none, none] = some (.nx e') ∧ ∃ z2 z3, e' = [some t.enc, some (.list ((((rowsL t.cols).take ((rowsL t.cols).map encR).length).foldl (stepP (keyI t.key)) [[]]).map encW)), z2, z3, none] := by
    refine loop_inv (fun i e => ∃ z2 z3, e = [some t.enc, some (.list ((((rowsL t.cols).take i).foldl (stepP (keyI t.key)) [[]]).map encW)), z2, z3, none]) ⟨none, none, rfl⟩ fun i d e hd hi => ?_
    obtain ⟨z2, z3, rfl⟩ := hi
    rw [List.getElem?_map] at hd
    cases hr : (rowsL t.cols)[i]? with
    | none =>
      rw [hr] at hd
      cases hd
    | some row =>
      rw [hr] at hd
      cases hd
      have f1 := fw i
      have f2 := fw (i + 1)
      have e2 : ((rowsL t.cols).take (i + 1)).foldl (stepP (keyI t.key)) [[]] = stepP (keyI t.key) (((rowsL t.cols).take i).foldl (stepP (keyI t.key)) [[]]) row := by
        rw [List.take_add_one, hr, List.foldl_append]
        rfl
      rw [e2] at f2 ⊢
      generalize ((rowsL t.cols).take i).foldl (stepP (keyI t.key)) [[]] = ws at f1 f2 ⊢
      unfold stepP at f2 ⊢
      rw [List.length_append] at f2
      refine ⟨_, _, rfl, .inl ?_, some (encR row), some (.list (((ws.filter fun one => mayF (keyI t.key) one row).map fun one => one ++ [row]).map encW)), rfl⟩
      unfold lb1_all_contents
      refine ev_set (d := .list (((ws.filter fun one => mayF (keyI t.key) one row).map fun one => one ++ [row]).map encW)) ?_ ?_
      · refine ev_lc (ds := ws.map encW) (ev_it rfl rfl) ?_ (line_big (by rw [List.length_map]; omega))
        rw [List.map_map]
        refine lc_typed (enc := encW) (p := fun one => mayF (keyI t.key) one row) (f := encW ∘ fun one => one ++ [row]) fun one ho => ⟨_, gB_ap _ _ _, ?_, fun hm => ?_⟩
        · exact ev_tru (ev_cb (ev_cons rfl (ev_cons rfl (ev_cons rfl rfl))) (may_follow_eq t one row)) rfl
        · show mTup (mStar (mVar 4) (mCons (mVar 2) mNil)) _ = some (encW (one ++ [row]))
          rw [encW_app]
          refine ev_tup (ev_star (xs := one.map encR) rfl (ev_cons rfl rfl)) (line_big ?_)
          unfold mayF at hm
          cases e3 : one.getLast? with
          | none =>
            have : one = [] := List.getLast?_eq_none_iff.mp e3
            rw [this]
            simp
          | some last =>
            rw [e3] at hm
            have := of_decide_eq_true (Bool.and_eq_true_iff.mp hm).1
            rw [List.length_append, List.length_map]
            show one.length + 1 ≤ _
            omega
      · refine ev_set1 (d := .list ((ws ++ (ws.filter fun one => mayF (keyI t.key) one row).map fun one => one ++ [row]).map encW)) (ev_bin rfl rfl ?_) rfl
        rw [List.map_append]
        refine dAdd_list ?_
        rw [List.length_map, List.length_map]
        omega
  obtain ⟨e', h1, z2, z3, rfl⟩ := loop
  rw [List.length_map, List.take_length, (WT_all h hs).1] at h1
  unfold fm_all_contents mb_all_contents
  refine ev_run (d := .list (CN t)) ?_ rfl
  refine ev_set (d := .list ([[]].map encW)) (ev_lst (ev_cons (d := encW []) (ev_tup rfl (Nat.zero_le _)) rfl) (show 1 ≤ sizeLine by decide)) ?_
  refine ev_for (ds := (rowsL t.cols).map encR) (ev_it (ev_cb (ev_cons rfl rfl) (possible_rows_eq h.cols h.few (by omega))) rfl) h1 ?_
  exact ev_ret (ev_cb (ev_cons rfl rfl) (sort_WT t))
/-! ### all worlds -/
def stepD (ws : List (List PyData)) (C : List PyData) : List (List PyData) := ws.flatMap fun w => C.map fun c => w ++ [c]
def WD (ts : List Tab) : List (List PyData) := ts.foldl (fun ws t => stepD ws (CN t)) [[]]
theorem WD_take {ts : List Tab} {i : Nat} {t : Tab} (h : ts[i]? = some t) : WD (ts.take (i + 1)) = stepD (WD (ts.take i)) (CN t) := by
  unfold WD
  (rw [List.take_add_one, h, List.foldl_append])
  rfl
theorem stepD_len (ws : List (List PyData)) (C : List PyData) : (stepD ws C).length = ws.length * C.length := by
  unfold stepD
  exact flat_count fun a _ => by rw [List.length_map]
structure SmallG (ts : List Tab) : Prop where
  ok : ∀ t ∈ ts, t.Ok
  few : ts.length ≤ 4
  nine : sumP ts ≤ 9
theorem sumP_parts : ∀ {ts : List Tab}, (∀ t ∈ ts, t.Ok) → (∀ t ∈ ts, prodM t.cols ≤ sumP ts) ∧ 0 ≤ sumP ts
  | [], _ => ⟨fun _ h => absurd h (by simp), Int.le_refl _⟩
  | u :: us, h => by
    obtain ⟨h1, h2⟩ := sumP_parts (ts := us) fun t ht => h t (List.mem_cons_of_mem _ ht)
    have hp := prodM_pos (cs := u.cols) (h u List.mem_cons_self).cols
    refine ⟨fun t ht => ?_, by show 0 ≤ prodM u.cols + sumP us; omega⟩
    show prodM t.cols ≤ prodM u.cols + sumP us
    rcases List.mem_cons.mp ht with rfl | ht
    · omega
    · have := h1 t ht
      omega
theorem SmallG.each {ts : List Tab} (h : SmallG ts) : ∀ t ∈ ts, prodM t.cols ≤ 9 := fun t ht => by
  have := (sumP_parts h.ok).1 t ht
  have := h.nine
  omega
theorem SmallG.take {ts : List Tab} (h : SmallG ts) (i : Nat) : SmallG (ts.take i) := by
  refine ⟨fun t ht => h.ok t (List.mem_of_mem_take ht), by rw [List.length_take]; have := h.few; omega, ?_⟩
  have e : sumP ts = sumP (ts.take i) + sumP (ts.drop i) := by rw [← sumP_app, List.take_append_drop]
  have := (sumP_parts (ts := ts.drop i) fun t ht => h.ok t (List.mem_of_mem_drop ht)).2
  have := h.nine
  omega
theorem WD_few : ∀ (ts : List Tab) (ws : List (List PyData)), (∀ t ∈ ts, t.Ok) → (ts.foldl (fun ws t => stepD ws (CN t)) ws).length ≤ ws.length * 2 ^ (sumP ts).toNat
  | [], ws, _ => by
    show ws.length ≤ ws.length * 2 ^ (0 : Int).toNat
    simp
  | t :: ts, ws, h => by
    have h1 := WD_few ts (stepD ws (CN t)) fun x hx => h x (List.mem_cons_of_mem _ hx)
    have h2 := WT_few (h t List.mem_cons_self)
    have h3 := (sumP_parts (ts := ts) fun x hx => h x (List.mem_cons_of_mem _ hx)).2
    have h4 := prodM_pos (cs := t.cols) (h t List.mem_cons_self).cols
    have e : (sumP (t :: ts)).toNat = (prodM t.cols).toNat + (sumP ts).toNat := by
      show (prodM t.cols + sumP ts).toNat = _
      omega
    rw [List.foldl_cons, e, Nat.pow_add, ← Nat.mul_assoc]
    refine Nat.le_trans h1 (Nat.mul_le_mul_right _ ?_)
    rw [stepD_len, CN_len]
    exact Nat.mul_le_mul_left _ h2
theorem SmallG.worlds {ts : List Tab} (h : SmallG ts) : (WD ts).length ≤ 512 := by
  have h1 := WD_few ts [[]] h.ok
  have h2 := pow_512 (n := (sumP ts).toNat) (by have := h.nine; omega)
  simp only [List.length_singleton, Nat.one_mul] at h1
  exact Nat.le_trans h1 h2
theorem WD_count : ∀ (ts : List Tab) (ws : List (List PyData)), (∀ t ∈ ts, t.Ok ∧ prodM t.cols ≤ 9) → ((ts.foldl (fun ws t => stepD ws (CN t)) ws).length : Int) = ws.length * prodC ts
  | [], ws, _ => by
    show (ws.length : Int) = ws.length * 1
    omega
  | t :: ts, ws, h => by
    have h1 := WD_count ts (stepD ws (CN t)) fun x hx => h x (List.mem_cons_of_mem _ hx)
    have h2 := (WT_all (h t List.mem_cons_self).1 (h t List.mem_cons_self).2).2
    rw [List.foldl_cons, h1, stepD_len, CN_len, Int.natCast_mul, h2, Int.mul_assoc]
    rfl
theorem SmallG.count {ts : List Tab} (h : SmallG ts) : ((WD ts).length : Int) = prodC ts := by
  have := WD_count ts [[]] fun t ht => ⟨h.ok t ht, h.each t ht⟩
  unfold WD
  rw [this]
  simp
theorem stepD_long {ws : List (List PyData)} {C : List PyData} {n : Nat} (h : ∀ w ∈ ws, w.length = n) : ∀ w ∈ stepD ws C, w.length = n + 1 := fun w hw => by
  unfold stepD at hw
  obtain ⟨a, h1, h2⟩ := List.mem_flatMap.mp hw
  obtain ⟨c, _, rfl⟩ := List.mem_map.mp h2
  rw [List.length_append, h a h1]
  rfl
theorem WD_long : ∀ (ts : List Tab) (ws : List (List PyData)) (n : Nat), (∀ w ∈ ws, w.length = n) → ∀ w ∈ ts.foldl (fun ws t => stepD ws (CN t)) ws, w.length = n + ts.length
  | [], ws, n, h => h
  | t :: ts, ws, n, h => fun w hw => by
    have := WD_long ts (stepD ws (CN t)) (n + 1) (stepD_long h) w hw
    rw [List.length_cons]
    omega
theorem SmallG.short {ts : List Tab} (h : SmallG ts) : ∀ w ∈ WD ts, w.length ≤ 4 := fun w hw => by
  have := WD_long ts [[]] 0 (fun w h => by rw [List.mem_singleton.mp h]; rfl) w hw
  have := h.few
  omega
theorem CN_few {t : Tab} (h : t.Ok) (hs : prodM t.cols ≤ 9) : (CN t).length ≤ 512 := by
  rw [CN_len]
  exact Nat.le_trans (WT_few h) (pow_512 (by omega))
/-! ### the law's own -/
theorem eqvRow (x y : List Int) : PyData.eqv (encR x) (encR y) = decide (x = y) := by
  show PyData.eqv (.tuple (x.map .int)) (.tuple (y.map .int)) = _
  rw [PyData.eqv, eqvR]
theorem anyRow (x : List Int) : ∀ ys : List (List Int), ((ys.map encR).any fun z => PyData.eqv z (encR x)) = decide (x ∈ ys)
  | [] => by simp
  | y :: ys => by
    rw [List.map_cons, List.any_cons, anyRow x ys, eqvRow]
    by_cases h1 : y = x
    · simp [h1]
    · have h2 : x ≠ y := fun z => h1 z.symm
      simp [h1, h2]
theorem dInR (neg : Bool) (x : List Int) (ys : List (List Int)) : dIn neg (encR x) (.list (ys.map encR)) = some (.bool (xor neg (decide (x ∈ ys)))) := by
  show (if SeqAt.shaped (encR x) = true ∧ SeqAt.shaped (.list (ys.map encR)) = true then some (PyData.bool (xor neg ((ys.map encR).any fun z => PyData.eqv z (encR x)))) else none) = _
  rw [if_pos ⟨shapedR x, shapedRs ys⟩, anyRow]
theorem law_way_step {t : Tab} {ws : List (List (List Int))} {row : List Int} {x0 x1 z5 z6 z7 : Option PyData} (hr : row ≠ []) (hw : ∀ one ∈ ws, one.length ≤ 9 ∧ ∀ r ∈ one, r ≠ []) (hl : ws.length ≤ 512) :
    ∃ z, lb3_law_worlds [x0, x1, some t.enc, some (.list (ws.map encW)), some (encR row), z5, z6, z7, none] = some (.nx [x0, x1, some t.enc, some (.list ((stepW (keyI t.key) ws row).map encW)), some (encR row), z5, z6, z, none]) := by
  have loop : ∃ e', loopD (gB 7) lb2_law_worlds (ws.map encW) [x0, x1, some t.enc, some (.list ((ws ++ ((ws.take 0).filter fun one => decide (keyI t.key row ∉ one.map (keyI t.key))).map fun one => one ++ [row]).map encW)), some (encR row), z5, z6, z7, none] = some (.nx e') ∧ ∃ z, e' = [x0, x1, some t.enc, some (.list ((ws ++ ((ws.take (ws.map encW).length).filter fun one => decide (keyI t.key row ∉ one.map (keyI t.key))).map fun one => one ++ [row]).map encW)), some (encR row), z5, z6, z, none] := by
    refine loop_inv (fun i e => ∃ z, e = [x0, x1, some t.enc, some (.list ((ws ++ ((ws.take i).filter fun one => decide (keyI t.key row ∉ one.map (keyI t.key))).map fun one => one ++ [row]).map encW)), some (encR row), z5, z6, z, none]) ⟨z7, rfl⟩ fun i d e hd hi => ?_
    obtain ⟨z, rfl⟩ := hi
    rw [List.getElem?_map] at hd
    cases ho : ws[i]? with
    | none =>
      rw [ho] at hd
      cases hd
    | some one =>
      rw [ho] at hd
      cases hd
      obtain ⟨ol, orr⟩ := hw one (List.mem_of_getElem? ho)
      have e2 : (ws.take (i + 1)).filter (fun one => decide (keyI t.key row ∉ one.map (keyI t.key))) = (ws.take i).filter (fun one => decide (keyI t.key row ∉ one.map (keyI t.key))) ++ (if keyI t.key row ∉ one.map (keyI t.key) then [one] else []) := by
        rw [List.take_add_one, ho, List.filter_append]
        show _ ++ [one].filter _ = _
        by_cases z : keyI t.key row ∈ one.map (keyI t.key)
        · rw [if_neg (fun y => y z), List.filter_cons, if_neg (by rw [decide_eq_false (fun y => y z)]; exact Bool.false_ne_true), List.filter_nil]
        · rw [if_pos z, List.filter_cons, if_pos (decide_eq_true z), List.filter_nil]
      have tst : (mTst (mBin (dIn true) (mOr (mSl (mVar 4) mNoPart (mPart (mBin dIx (mVar 2) (mC (.int 1))))) (mVar 4)) (mLc [8] (mIt (mVar 7)) (gB 8) mYes le2_law_worlds))) [x0, x1, some t.enc, some (.list ((ws ++ ((ws.take i).filter fun one => decide (keyI t.key row ∉ one.map (keyI t.key))).map fun one => one ++ [row]).map encW)), some (encR row), z5, z6, some (encW one), none] = some (decide (keyI t.key row ∉ one.map (keyI t.key))) := by
        refine ev_tst (ev_bin (a := encR (keyI t.key row)) (b := .list ((one.map (keyI t.key)).map encR)) (key_or t hr rfl rfl) (ev_lc (ds := one.map encR) (ev_it rfl rfl) ?_ (line_big (by rw [List.length_map, List.length_map]; omega))) ?_)
        · rw [List.map_map]
          exact lc_all (enc := encR) (f := encR ∘ keyI t.key) fun r hr2 => ⟨_, gB_ap _ _ _, key_or t (orr r hr2) rfl rfl⟩
        · rw [dInR, Bool.true_xor, ← decide_not]
      refine ⟨_, [x0, x1, some t.enc, some (.list ((ws ++ ((ws.take (i + 1)).filter fun one => decide (keyI t.key row ∉ one.map (keyI t.key))).map fun one => one ++ [row]).map encW)), some (encR row), z5, z6, some (encW one), none], rfl, .inl ?_, some (encW one), rfl⟩
      unfold lb2_law_worlds
      rw [e2]
      by_cases z : keyI t.key row ∈ one.map (keyI t.key)
      · rw [decide_eq_false (fun y => y z)] at tst
        rw [if_neg (fun y => y z), List.append_nil]
        exact ev_if1F tst rfl
      · rw [decide_eq_true z] at tst
        rw [if_pos z]
        refine ev_if1T tst ?_
        refine (ev_app (d := encW (one ++ [row])) rfl ?_ ?_).trans ?_
        · rw [encW_app]
          refine ev_bin (a := .tuple (one.map encR)) (b := .tuple [encR row]) rfl rfl (if_pos (line_big ?_))
          rw [List.length_map]
          show one.length + 1 ≤ _
          omega
        · refine line_lt ?_
          have h3 := List.length_filter_le (fun one => decide (keyI t.key row ∉ one.map (keyI t.key))) (ws.take i)
          have h4 : (ws.take i).length ≤ ws.length := by rw [List.length_take]; omega
          rw [List.length_map, List.length_append, List.length_map]
          omega
        · simp only [List.map_append, List.map_cons, List.map_nil, List.append_assoc]
          rfl
  obtain ⟨e', h1, z, rfl⟩ := loop
  rw [List.length_map, List.take_length, List.take_zero, List.filter_nil, List.map_nil, List.append_nil] at h1
  refine ⟨z, ?_⟩
  unfold lb3_law_worlds
  exact ev_for1 (ds := ws.map encW) (ev_it (d := .list (ws.map encW)) (ev_cb (ev_cons rfl rfl) rfl) rfl) h1 rfl
theorem rows_some {t : Tab} (h : t.Ok) : ∀ r ∈ rowsL t.cols, r ≠ [] := fun r hr z => by
  have := rowsL_len r hr
  rw [z, List.length_nil] at this
  have := h.some
  omega
theorem law_ways {t : Tab} (h : t.Ok) (hs : prodM t.cols ≤ 9) {x0 x1 z4 z5 z6 z7 : Option PyData} : ∃ e', loopD (gB 4) lb3_law_worlds ((rowsL t.cols).map encR) [x0, x1, some t.enc, some (.list ([[]].map encW)), z4, z5, z6, z7, none] = some (.nx e') ∧ ∃ y4 y7, e' = [x0, x1, some t.enc, some (.list ((WT t).map encW)), y4, z5, z6, y7, none] := by
  have rc := rowsL_nine h hs
  have loop : ∃ e', loopD (gB 4) lb3_law_worlds ((rowsL t.cols).map encR) [x0, x1, some t.enc, some (.list ((((rowsL t.cols).take 0).foldl (stepW (keyI t.key)) [[]]).map encW)), z4, z5, z6, z7, none] = some (.nx e') ∧ ∃ y4 y7, e' = [x0, x1, some t.enc, some (.list ((((rowsL t.cols).take ((rowsL t.cols).map encR).length).foldl (stepW (keyI t.key)) [[]]).map encW)), y4, z5, z6, y7, none] := by
    refine loop_inv (fun i e => ∃ y4 y7, e = [x0, x1, some t.enc, some (.list ((((rowsL t.cols).take i).foldl (stepW (keyI t.key)) [[]]).map encW)), y4, z5, z6, y7, none]) ⟨z4, z7, rfl⟩ fun i d e hd hi => ?_
    obtain ⟨y4, y7, rfl⟩ := hi
    rw [List.getElem?_map] at hd
    cases hr : (rowsL t.cols)[i]? with
    | none =>
      rw [hr] at hd
      cases hd
    | some row =>
      rw [hr] at hd
      cases hd
      have f1 : (((rowsL t.cols).take i).foldl (stepW (keyI t.key)) [[]]).length ≤ 512 := by
        have := foldW_few (key := keyI t.key) ((rowsL t.cols).take i) [[]]
        have h2 := pow_512 (n := ((rowsL t.cols).take i).length) (by rw [List.length_take]; omega)
        simp only [List.length_singleton, Nat.one_mul] at this
        omega
      have f2 : ∀ one ∈ ((rowsL t.cols).take i).foldl (stepW (keyI t.key)) [[]], one.length ≤ 9 ∧ ∀ r ∈ one, r ≠ [] := fun one ho => by
        have := foldW_rows (key := keyI t.key) (p := fun r => r ≠ []) ((rowsL t.cols).take i) [[]] 0 (fun r hr => rows_some h r (List.mem_of_mem_take hr)) (fun o ho => by
          rw [List.mem_singleton.mp ho]
          exact ⟨Nat.le_refl _, fun _ h => by cases h⟩) one ho
        refine ⟨?_, this.2⟩
        have h3 := this.1
        rw [List.length_take] at h3
        omega
      have e2 : ((rowsL t.cols).take (i + 1)).foldl (stepW (keyI t.key)) [[]] = stepW (keyI t.key) (((rowsL t.cols).take i).foldl (stepW (keyI t.key)) [[]]) row := by
        rw [List.take_add_one, hr, List.foldl_append]
        rfl
      obtain ⟨z, st⟩ := law_way_step (t := t) (row := row) (x0 := x0) (x1 := x1) (z5 := z5) (z6 := z6) (z7 := y7) (rows_some h row (List.mem_of_getElem? hr)) f2 f1
      rw [← e2] at st
      exact ⟨_, _, rfl, .inl st, some (encR row), z, rfl⟩
  rw [List.length_map, List.take_length] at loop
  exact loop
theorem law_table {t : Tab} (h : t.Ok) (hs : prodM t.cols ≤ 9) {ws : List (List PyData)} {x0 z3 z4 z5 z6 z7 : Option PyData} (hw : ∀ w ∈ ws, w.length ≤ 4) (hl : (stepD ws (CN t)).length ≤ 512) :
    ∃ y3 y4 y6 y7, lb4_law_worlds [x0, some (.list (ws.map .tuple)), some t.enc, z3, z4, z5, z6, z7, none] = some (.nx [x0, some (.list ((stepD ws (CN t)).map .tuple)), some t.enc, y3, y4, some (.list ((stepD ws (CN t)).map .tuple)), y6, y7, none]) := by
  obtain ⟨e1, w1, y4, y7, rfl⟩ := law_ways h hs (x0 := x0) (x1 := some (.list (ws.map .tuple))) (z4 := z4) (z5 := z5) (z6 := z6) (z7 := z7)
  have cf := CN_few h hs
  have loop : ∃ e', loopD (gB 6) lb1_law_worlds (ws.map .tuple) [x0, some (.list (ws.map .tuple)), some t.enc, some (.list ((WT t).map encW)), y4, some (.list ((stepD (ws.take 0) (CN t)).map .tuple)), z6, y7, none] = some (.nx e') ∧ ∃ y6, e' = [x0, some (.list (ws.map .tuple)), some t.enc, some (.list ((WT t).map encW)), y4, some (.list ((stepD (ws.take (ws.map PyData.tuple).length) (CN t)).map .tuple)), y6, y7, none] := by
    refine loop_inv (fun i e => ∃ y6, e = [x0, some (.list (ws.map .tuple)), some t.enc, some (.list ((WT t).map encW)), y4, some (.list ((stepD (ws.take i) (CN t)).map .tuple)), y6, y7, none]) ⟨z6, rfl⟩ fun i d e hd hi => ?_
    obtain ⟨y6, rfl⟩ := hi
    rw [List.getElem?_map] at hd
    cases ho : ws[i]? with
    | none =>
      rw [ho] at hd
      cases hd
    | some w =>
      rw [ho] at hd
      cases hd
      have wl := hw w (List.mem_of_getElem? ho)
      have e2 : stepD (ws.take (i + 1)) (CN t) = stepD (ws.take i) (CN t) ++ (CN t).map fun c => w ++ [c] := by
        unfold stepD
        rw [List.take_add_one, ho, List.flatMap_append]
        simp
      have few : (stepD (ws.take (i + 1)) (CN t)).length ≤ 512 := by
        rw [stepD_len] at hl ⊢
        have : (ws.take (i + 1)).length ≤ ws.length := by rw [List.length_take]; omega
        have := Nat.mul_le_mul_right (CN t).length this
        omega
      refine ⟨_, [x0, some (.list (ws.map .tuple)), some t.enc, some (.list ((WT t).map encW)), y4, some (.list ((stepD (ws.take (i + 1)) (CN t)).map .tuple)), some (.tuple w), y7, none], rfl, .inl ?_, some (.tuple w), rfl⟩
      unfold lb1_law_worlds
      refine ev_set1 (d := .list ((stepD (ws.take (i + 1)) (CN t)).map .tuple)) ?_ rfl
      rw [e2] at few ⊢
      rw [List.length_append] at few
      refine ev_bin (a := .list ((stepD (ws.take i) (CN t)).map .tuple)) (b := .list (((CN t).map fun c => w ++ [c]).map .tuple)) rfl ?_ ?_
      · refine ev_lc (ds := CN t) (ev_it (ev_cb (ev_cons rfl rfl) (sort_WT t)) rfl) ?_ (line_big (by rw [List.length_map]; omega))
        rw [List.map_map]
        have l1 := lc_all (enc := id) (f := PyData.tuple ∘ fun c => w ++ [c]) (bind := gB 7) (me := le1_law_worlds) (env := wipeD [x0, some (.list (ws.map .tuple)), some t.enc, some (.list ((WT t).map encW)), y4, some (.list ((stepD (ws.take i) (CN t)).map .tuple)), some (.tuple w), y7, none] [7]) (as := CN t) fun c _ => ⟨_, gB_ap _ _ _, ?_⟩
        · rw [List.map_id] at l1
          exact l1
        · refine ev_bin (a := .tuple w) (b := .tuple [c]) rfl rfl (if_pos (line_big ?_))
          show w.length + 1 ≤ _
          omega
      · rw [List.map_append]
        refine dAdd_list ?_
        rw [List.length_map, List.length_map]
        omega
  obtain ⟨e', h1, y6, rfl⟩ := loop
  rw [List.length_map, List.take_length] at h1
  refine ⟨some (.list ((WT t).map encW)), y4, y6, y7, ?_⟩
  unfold lb4_law_worlds
  refine ev_set (d := .list ([[]].map encW)) (ev_lst (ev_cons (d := encW []) (ev_tup rfl (Nat.zero_le _)) rfl) (show 1 ≤ sizeLine by decide)) ?_
  refine ev_for (ds := (rowsL t.cols).map encR) (ev_it (ev_cb (ev_cons rfl rfl) (law_possible_eq h.cols h.few (by omega))) rfl) w1 ?_
  refine ev_set (d := .list []) (ev_lst rfl (Nat.zero_le _)) ?_
  refine ev_for (ds := ws.map .tuple) (ev_it rfl rfl) h1 ?_
  exact ev_set1 (d := .list ((stepD ws (CN t)).map .tuple)) rfl rfl
theorem law_worlds_eq {ts : List Tab} (h : SmallG ts) : fm_law_worlds [.tuple (ts.map Tab.enc)] = some (.list ((WD ts).map .tuple)) := by
  have loop : ∃ e', loopD (gB 2) lb4_law_worlds (ts.map Tab.enc) [some (.tuple (ts.map Tab.enc)), some (.list ((WD (ts.take 0)).map .tuple)), none, none, none, none, none, none, none] = some (.nx e') ∧ ∃ y2 y3 y4 y5 y6 y7, e' = [some (.tuple (ts.map Tab.enc)), some (.list ((WD (ts.take (ts.map Tab.enc).length)).map .tuple)), y2, y3, y4, y5, y6, y7, none] := by
    refine loop_inv (fun i e => ∃ y2 y3 y4 y5 y6 y7, e = [some (.tuple (ts.map Tab.enc)), some (.list ((WD (ts.take i)).map .tuple)), y2, y3, y4, y5, y6, y7, none]) ⟨none, none, none, none, none, none, rfl⟩ fun i d e hd hi => ?_
    obtain ⟨y2, y3, y4, y5, y6, y7, rfl⟩ := hi
    rw [List.getElem?_map] at hd
    cases ht : ts[i]? with
    | none =>
      rw [ht] at hd
      cases hd
    | some t =>
      rw [ht] at hd
      cases hd
      have tm := List.mem_of_getElem? ht
      obtain ⟨v3, v4, v6, v7, st⟩ := law_table (h.ok t tm) (h.each t tm) (ws := WD (ts.take i)) (x0 := some (.tuple (ts.map Tab.enc))) (z3 := y3) (z4 := y4) (z5 := y5) (z6 := y6) (z7 := y7) (h.take i).short (by rw [← WD_take ht]; exact (h.take (i + 1)).worlds)
      rw [← WD_take ht] at st
      exact ⟨_, _, rfl, .inl st, _, _, _, _, _, _, rfl⟩
  obtain ⟨e', h1, y2, y3, y4, y5, y6, y7, rfl⟩ := loop
  rw [List.length_map, List.take_length] at h1
  unfold fm_law_worlds mb_law_worlds
  refine ev_run (d := .list ((WD ts).map .tuple)) ?_ rfl
  refine ev_set (d := .list ((WD (ts.take 0)).map .tuple)) (ev_lst (ev_cons (d := .tuple []) (ev_tup rfl (Nat.zero_le _)) rfl) (show 1 ≤ sizeLine by decide)) ?_
  exact ev_for (ds := ts.map Tab.enc) (ev_it rfl rfl) h1 (ev_ret rfl)
/-! ### the program's all_worlds -/
theorem sum_ints (ns : List Int) : bSum [.list (ns.map .int)] = some (.int ns.sum) := by
  show (intsOf (ns.map .int)).map (fun ns => PyData.int ns.sum) = _
  rw [intsOf_map]
  rfl
theorem sumP_sum : ∀ ts : List Tab, (ts.map fun t => prodM t.cols).sum = sumP ts
  | [] => rfl
  | t :: ts => by
    rw [List.map_cons, List.sum_cons, sumP_sum ts]
    rfl
theorem few_text : ∀ i : Fin 9, ∀ (x z : Option PyData), ∃ d, mFs [mLit "more than ", mFmt (mVar 1), mLit " rows are possible"] [x, some (.int (i.val : Int)), z] = some d := by
  intro i x z
  have e : ∀ i : Fin 9, (mFs [mLit "more than ", mFmt (mVar 1), mLit " rows are possible"] [none, some (.int (i.val : Int)), none]).isSome = true := by decide +kernel
  have e2 : mFs [mLit "more than ", mFmt (mVar 1), mLit " rows are possible"] [x, some (.int (i.val : Int)), z] = mFs [mLit "more than ", mFmt (mVar 1), mLit " rows are possible"] [none, some (.int (i.val : Int)), none] := rfl
  rw [e2]
  exact Option.isSome_iff_exists.mp (e i)
theorem few_sum {ts : List Tab} (h : ∀ t ∈ ts, t.Ok) (hl : ts.length ≤ 4) (m : Option PyData) : mCB bSum (mCons (mLc [2] (mIt (mVar 0)) (gB 2) mYes le1_check_few_rows) mNil) [some (.tuple (ts.map Tab.enc)), m, none] = some (.int (sumP ts)) := by
  refine ev_cb (ds := [.list ((ts.map fun t => prodM t.cols).map .int)]) (ev_cons (ev_lc (ds := ts.map Tab.enc) (ev_it rfl rfl) ?_ (line_big (by rw [List.length_map, List.length_map]; omega))) rfl) ?_
  · rw [List.map_map]
    exact lc_all (enc := Tab.enc) (f := PyData.int ∘ fun t => prodM t.cols) fun t ht => ⟨_, gB_ap _ _ _, ev_cb (ev_cons (d := .tuple (t.cols.map Col.enc)) (ev_bin rfl rfl rfl) rfl) (count_rows_eq (h t ht).cols)⟩
  · rw [sum_ints, sumP_sum]
theorem check_many {ts : List Tab} (h : ∀ t ∈ ts, t.Ok) (hl : ts.length ≤ 4) {most : Int} (h0 : 0 ≤ most) (h8 : most ≤ 8) (hm : most < sumP ts) : fx_check_few_rows [.tuple (ts.map Tab.enc), .int most] = some (.inr "TooMany") := by
  obtain ⟨d, hd⟩ := few_text ⟨most.toNat, by omega⟩ (some (.tuple (ts.map Tab.enc))) none
  have em : ((most.toNat : Nat) : Int) = most := by omega
  simp only [em] at hd
  unfold fx_check_few_rows runX mb_check_few_rows mIfX
  have t1 : mTst (mBin dGt (mCB bSum (mCons (mLc [2] (mIt (mVar 0)) (gB 2) mYes le1_check_few_rows) mNil)) (mVar 1)) [some (.tuple (ts.map Tab.enc)), some (.int most), none] = some true := by
    refine ev_tst (ev_bin (few_sum h hl _) rfl ?_)
    rw [dGt_int, decide_eq_true hm]
  show ((mTst (mBin dGt (mCB bSum (mCons (mLc [2] (mIt (mVar 0)) (gB 2) mYes le1_check_few_rows) mNil)) (mVar 1)) [some (.tuple (ts.map Tab.enc)), some (.int most), none]).bind _).bind _ = _
  rw [t1, Option.bind_some, if_pos rfl]
  show ((mFs [mLit "more than ", mFmt (mVar 1), mLit " rows are possible"] [some (.tuple (ts.map Tab.enc)), some (.int most), none]).bind _).bind _ = _
  rw [hd]
  rfl
theorem check_few {ts : List Tab} (h : ∀ t ∈ ts, t.Ok) (hl : ts.length ≤ 4) {most : Int} (hm : sumP ts ≤ most) : fx_check_few_rows [.tuple (ts.map Tab.enc), .int most] = some (.inl .none) := by
  unfold fx_check_few_rows runX mb_check_few_rows mIfX
  have t1 : mTst (mBin dGt (mCB bSum (mCons (mLc [2] (mIt (mVar 0)) (gB 2) mYes le1_check_few_rows) mNil)) (mVar 1)) [some (.tuple (ts.map Tab.enc)), some (.int most), none] = some false := by
    refine ev_tst (ev_bin (few_sum h hl _) rfl ?_)
    rw [dGt_int, decide_eq_false (by omega)]
  show ((mTst (mBin dGt (mCB bSum (mCons (mLc [2] (mIt (mVar 0)) (gB 2) mYes le1_check_few_rows) mNil)) (mVar 1)) [some (.tuple (ts.map Tab.enc)), some (.int most), none]).bind _).bind _ = _
  rw [t1, Option.bind_some, if_neg Bool.false_ne_true]
  rfl
theorem all_worlds_many {ts : List Tab} (h : ∀ t ∈ ts, t.Ok) (hl : ts.length ≤ 4) {most : Int} (h0 : 0 ≤ most) (h8 : most ≤ 8) (hm : most < sumP ts) : fx_all_worlds [.tuple (ts.map Tab.enc), .int most] = some (.inr "TooMany") := by
  have c := check_many h hl h0 h8 hm
  unfold fx_all_worlds runX mb_all_worlds mSeqX mCX
  show ((((mCons (mVar 0) (mCons (mVar 1) mNil)) [some (.tuple (ts.map Tab.enc)), some (.int most), none, none, none, none, none]).bind _).bind _).bind _ = _
  rw [show (mCons (mVar 0) (mCons (mVar 1) mNil)) [some (PyData.tuple (ts.map Tab.enc)), some (PyData.int most), none, none, none, none, none] = some [.tuple (ts.map Tab.enc), .int most] from rfl, Option.bind_some, c]
  rfl
theorem all_worlds_few {ts : List Tab} (h : SmallG ts) {most : Int} (hm : sumP ts ≤ most) : fx_all_worlds [.tuple (ts.map Tab.enc), .int most] = some (.inl (.list ((WD ts).map .tuple))) := by
  have c := check_few h.ok h.few hm
  have loop : ∃ e', loopD (gB 3) lb1_all_worlds (ts.map Tab.enc) [some (.tuple (ts.map Tab.enc)), some (.int most), some (.list ((WD (ts.take 0)).map .tuple)), none, none, none, none] = some (.nx e') ∧ ∃ y3 y4, e' = [some (.tuple (ts.map Tab.enc)), some (.int most), some (.list ((WD (ts.take (ts.map Tab.enc).length)).map .tuple)), y3, y4, none, none] := by
    refine loop_inv (fun i e => ∃ y3 y4, e = [some (.tuple (ts.map Tab.enc)), some (.int most), some (.list ((WD (ts.take i)).map .tuple)), y3, y4, none, none]) ⟨none, none, rfl⟩ fun i d e hd hi => ?_
    obtain ⟨y3, y4, rfl⟩ := hi
    rw [List.getElem?_map] at hd
    cases ht : ts[i]? with
    | none =>
      rw [ht] at hd
      cases hd
    | some t =>
      rw [ht] at hd
      cases hd
      have tm := List.mem_of_getElem? ht
      have f2 := (h.take (i + 1)).worlds
      refine ⟨_, [some (.tuple (ts.map Tab.enc)), some (.int most), some (.list ((WD (ts.take (i + 1))).map .tuple)), some t.enc, some (.list (CN t)), none, none], rfl, .inl ?_, some t.enc, some (.list (CN t)), rfl⟩
      unfold lb1_all_worlds
      refine ev_set (d := .list (CN t)) (ev_cb (ev_cons rfl rfl) (all_contents_eq (h.ok t tm) (h.each t tm))) ?_
      refine ev_set1 (d := .list ((WD (ts.take (i + 1))).map .tuple)) ?_ rfl
      refine ev_lc2 (ds := (WD (ts.take i)).map .tuple) (ev_it rfl rfl) ?_ (by rw [List.length_map]; exact line_big (by omega))
      rw [WD_take ht]
      refine (lc2_all (enc := PyData.tuple) (enb := id) (f := fun w c => .tuple (w ++ [c])) (bs := CN t) (fun w _ => ?_) (fun w hw d _ => ⟨_, gB_ap _ _ _, ?_⟩)).trans ?_
      · rw [List.map_id]
        rfl
      · refine ev_tup (ev_star (xs := w) rfl (ev_cons rfl rfl)) (line_big ?_)
        have := (h.take i).short w hw
        rw [List.length_append]
        show w.length + 1 ≤ _
        omega
      · unfold stepD
        rw [List.map_flatMap]
        simp only [List.map_map]
        rfl
  obtain ⟨e', h1, y3, y4, rfl⟩ := loop
  rw [List.length_map, List.take_length] at h1
  have rest : (mSeq (mAsg (mLst (mCons (mTup mNil) mNil)) (gB 2)) (mSeq (mFor (mIt (mVar 0)) (gB 3) lb1_all_worlds) (mRet (mVar 2)))) [some (.tuple (ts.map Tab.enc)), some (.int most), none, none, none, none, none] = some (.rt (.list ((WD ts).map .tuple))) := by
    refine ev_set (d := .list ((WD (ts.take 0)).map .tuple)) (ev_lst (ev_cons (d := .tuple []) (ev_tup rfl (Nat.zero_le _)) rfl) (show 1 ≤ sizeLine by decide)) ?_
    exact ev_for (ds := ts.map Tab.enc) (ev_it rfl rfl) h1 (ev_ret rfl)
  have first : mCX fx_check_few_rows (mCons (mVar 0) (mCons (mVar 1) mNil)) (fun _ env => some (.nx env)) [some (.tuple (ts.map Tab.enc)), some (.int most), none, none, none, none, none] = some (.fl (.nx [some (.tuple (ts.map Tab.enc)), some (.int most), none, none, none, none, none])) := by
    unfold mCX
    rw [show (mCons (mVar 0) (mCons (mVar 1) mNil)) [some (PyData.tuple (ts.map Tab.enc)), some (PyData.int most), none, none, none, none, none] = some [.tuple (ts.map Tab.enc), .int most] from rfl, Option.bind_some, c]
    rfl
  unfold fx_all_worlds runX mb_all_worlds mSeqX
  show ((mCX fx_check_few_rows (mCons (mVar 0) (mCons (mVar 1) mNil)) (fun _ env => some (.nx env)) [some (.tuple (ts.map Tab.enc)), some (.int most), none, none, none, none, none]).bind _).bind _ = _
  rw [first, Option.bind_some]
  show (mFl _ [some (.tuple (ts.map Tab.enc)), some (.int most), none, none, none, none, none]).bind _ = _
  unfold mFl
  rw [rest]
  rfl
/-! ### what the law hears -/
def lmD : Option Int → PyData
  | none => .none
  | some i => .int i
def lmI (l : Option Int) : Int := l.getD 8
def tooD : PyData := .tuple [.none, .list [.str "TooMany", .str "ValueError"]]
def outX : PyData ⊕ Str → PyData
  | .inl d => .tuple [d, .list []]
  | .inr _ => tooD
def runsX (g : PyData) (l : Option Int) : PyData ⊕ Str → Fx
  | .inl d => .fl (.nx [some g, some (lmD l), some d, some (.list []), none])
  | .inr c => .xc c [some g, some (lmD l), some .none, some (.list []), none]
theorem law_all_run {g : PyData} {l : Option Int} {r : PyData ⊕ Str} (h : fx_all_worlds [g, .int (lmI l)] = some r) : lx1_law_all [some g, some (lmD l), some .none, some (.list []), none] = some (runsX g l r) := by
  unfold lx1_law_all mIfX
  cases l with
  | none =>
    show (mCXd fx_all_worlds (mCons (mVar 0) mNil) [(.int 8)] (fun d env => some (.nx (env.set 2 (some d)))) [some g, some .none, some .none, some (.list []), none]) = _
    unfold mCXd
    show ((fx_all_worlds [g, .int 8]).bind _) = _
    have h' : fx_all_worlds [g, .int 8] = some r := h
    rw [h', Option.bind_some]
    cases r <;> rfl
  | some i =>
    show (mCXk fx_all_worlds (mCons (mVar 0) mNil) (mCons (mVar 1) mNil) (fun d env => some (.nx (env.set 2 (some d)))) [some g, some (.int i), some .none, some (.list []), none]) = _
    unfold mCXk
    show ((fx_all_worlds [g, .int i]).bind _) = _
    have h' : fx_all_worlds [g, .int i] = some r := h
    rw [h', Option.bind_some]
    cases r <;> rfl
theorem law_all_eq {g : PyData} {l : Option Int} {r : PyData ⊕ Str} (h : fx_all_worlds [g, .int (lmI l)] = some r) (hr : ∀ c, r = .inr c → c = "TooMany") : fm_law_all [g, lmD l] = some (outX r) := by
  have k := law_all_run h
  unfold fm_law_all mb_law_all
  refine ev_run (d := outX r) ?_ rfl
  refine ev_set (d := .none) rfl ?_
  refine ev_set (d := .list []) (ev_lst rfl (Nat.zero_le _)) ?_
  cases r with
  | inl d =>
    refine ev_seq (env' := [some g, some (lmD l), some d, some (.list []), none]) ?_ (ev_ret (ev_tup (ev_cons rfl (ev_cons rfl rfl)) (show 2 ≤ sizeLine by decide)))
    unfold mTry
    show ((lx1_law_all [some g, some (lmD l), some .none, some (.list []), none]).bind _) = _
    rw [k]
    rfl
  | inr c =>
    have := hr c rfl
    subst this
    refine ev_seq (env' := [some g, some (lmD l), some .none, some kinR_TooMany, none]) ?_ (ev_ret (ev_tup (ev_cons rfl (ev_cons rfl rfl)) (show 2 ≤ sizeLine by decide)))
    unfold mTry
    show ((lx1_law_all [some g, some (lmD l), some .none, some (.list []), none]).bind _) = _
    rw [k, Option.bind_some]
    show (if 4 < 5 then (kinD "TooMany").bind _ else none) = _
    rw [if_pos (by decide), show kinD "TooMany" = some kinR_TooMany from if_pos rfl]
    rfl
/-! ### shapes -/
theorem lay_all : ∀ {ds : List PyData}, (∀ d ∈ ds, d.canLay0 = true) → PyData.canLayAll0 ds = true
  | [], _ => by rw [PyData.canLayAll0]
  | d :: ds, h => by rw [PyData.canLayAll0, h d List.mem_cons_self, lay_all fun x hx => h x (List.mem_cons_of_mem _ hx)]; rfl
theorem dep_all {n : Nat} : ∀ {ds : List PyData}, (∀ d ∈ ds, d.depth ≤ n) → PyData.depthAll ds ≤ n
  | [], _ => by rw [PyData.depthAll]; exact Nat.zero_le _
  | d :: ds, h => by
    have h1 := h d List.mem_cons_self
    have h2 := dep_all (n := n) (ds := ds) fun x hx => h x (List.mem_cons_of_mem _ hx)
    rw [PyData.depthAll]
    omega
theorem WD_ways : ∀ (ts : List Tab) (ws : List (List PyData)), (∀ w ∈ ws, ∀ c ∈ w, ∃ one, c = encW one) → ∀ w ∈ ts.foldl (fun ws t => stepD ws (CN t)) ws, ∀ c ∈ w, ∃ one, c = encW one
  | [], ws, h => h
  | t :: ts, ws, h => WD_ways ts (stepD ws (CN t)) fun w hw c hc => by
    unfold stepD at hw
    obtain ⟨a, h1, h2⟩ := List.mem_flatMap.mp hw
    obtain ⟨d, h3, rfl⟩ := List.mem_map.mp h2
    rcases List.mem_append.mp hc with z | z
    · exact h a h1 c z
    · (rw [List.mem_singleton.mp z])
      exact CN_mem h3
theorem shaped_due (ts : List Tab) : SeqAt.shaped (.tuple [.list ((WD ts).map .tuple), .list []]) = true := by
  have hw : ∀ w ∈ WD ts, ∀ c ∈ w, ∃ one, c = encW one := WD_ways ts [[]] fun w h c hc => by
    rw [List.mem_singleton.mp h] at hc
    cases hc
  have l1 : ∀ d ∈ (WD ts).map PyData.tuple, d.canLay0 = true := fun d hd => by
    obtain ⟨w, h1, rfl⟩ := List.mem_map.mp hd
    rw [PyData.canLay0]
    exact lay_all fun c hc => by
      obtain ⟨one, rfl⟩ := hw w h1 c hc
      exact layW one
  have d1 : ∀ d ∈ (WD ts).map PyData.tuple, d.depth ≤ 3 := fun d hd => by
    obtain ⟨w, h1, rfl⟩ := List.mem_map.mp hd
    have : PyData.depthAll w ≤ 2 := dep_all fun c hc => by
      obtain ⟨one, rfl⟩ := hw w h1 c hc
      exact depW one
    rw [PyData.depth]
    omega
  have d2 := dep_all d1
  have l2 := lay_all l1
  unfold SeqAt.shaped
  rw [Bool.and_eq_true]
  refine ⟨?_, decide_eq_true ?_⟩
  · rw [PyData.canLay0, PyData.canLayAll0, PyData.canLay0, l2]
    rfl
  · have e1 : (PyData.list ((WD ts).map .tuple)).depth ≤ 4 := by
      rw [PyData.depth]
      omega
    have e2 : (PyData.list []).depth ≤ 4 := by decide
    have : PyData.depthAll [PyData.list ((WD ts).map .tuple), PyData.list []] ≤ 4 := dep_all fun d hd => by
      rcases List.mem_cons.mp hd with z | z
      · rw [z]
        exact e1
      · (rw [List.mem_singleton.mp z])
        exact e2
    rw [PyData.depth]
    omega
theorem dNe_self {d : PyData} (h : SeqAt.shaped d = true) : dNe d d = some (.bool false) := by
  rw [dNe, if_pos ⟨h, h⟩, SeqAt.eqv_refl d (Bool.and_eq_true_iff.mp h).1]
  rfl
theorem shaped_too : SeqAt.shaped tooD = true := by decide +kernel
/-! ### one limit -/
theorem limit_step {ts : List Tab} (h : SmallG ts) {l : Option Int} (h0 : 0 ≤ lmI l) (h8 : lmI l ≤ 8) {x0 x1 x2 x7 x8 : Option PyData} : ∃ z, lb1_law [x0, x1, x2, some (.tuple (ts.map Tab.enc)), some (.int (sumP ts)), some (.list ((WD ts).map .tuple)), some (lmD l), x7, x8, none] = some (.nx [x0, x1, x2, some (.tuple (ts.map Tab.enc)), some (.int (sumP ts)), some (.list ((WD ts).map .tuple)), some (lmD l), x7, z, none]) := by
  have tl : mIf (mTst (mBin (dIs false) (mVar 6) (mC .none))) (mC (.int 8)) (mVar 6) = fun env => mIf (mTst (mBin (dIs false) (mVar 6) (mC .none))) (mC (.int 8)) (mVar 6) env := rfl
  have lim : ∀ z, (mIf (mTst (mBin (dIs false) (mVar 6) (mC .none))) (mC (.int 8)) (mVar 6)) [x0, x1, x2, some (.tuple (ts.map Tab.enc)), some (.int (sumP ts)), some (.list ((WD ts).map .tuple)), some (lmD l), x7, z, none] = some (.int (lmI l)) := fun z => by
    cases l <;> rfl
  by_cases hm : sumP ts ≤ lmI l
  · have k := law_all_eq (l := l) (all_worlds_few h hm) (fun c z => by cases z)
    refine ⟨some (.tuple [.list ((WD ts).map .tuple), .list []]), ?_⟩
    unfold lb1_law
    refine ev_set (d := .tuple [.list ((WD ts).map .tuple), .list []]) (ev_cb (ev_cons rfl (ev_cons rfl rfl)) k) ?_
    refine ev_if1F (ev_tst (ev_bin rfl (b := .tuple [.list ((WD ts).map .tuple), .list []]) (ev_iT (ev_tst (ev_bin rfl (lim _) ?_)) (ev_tup (ev_cons rfl (ev_cons (d := .list []) (ev_lst rfl (Nat.zero_le _)) rfl)) (show 2 ≤ sizeLine by decide))) (dNe_self (shaped_due ts)))) rfl
    show some (PyData.bool (decide (sumP ts ≤ lmI l))) = _
    rw [decide_eq_true hm]
  · have k := law_all_eq (l := l) (all_worlds_many h.ok h.few h0 h8 (by omega)) (fun c z => by injection z with z; exact z.symm)
    refine ⟨some tooD, ?_⟩
    unfold lb1_law
    refine ev_set (d := tooD) (ev_cb (ev_cons rfl (ev_cons rfl rfl)) k) ?_
    refine ev_if1F (ev_tst (ev_bin rfl (b := tooD) (ev_iF (ev_tst (ev_bin rfl (lim _) ?_)) rfl) (dNe_self shaped_too))) rfl
    show some (PyData.bool (decide (sumP ts ≤ lmI l))) = _
    rw [decide_eq_false hm]
theorem limits_loop {ts : List Tab} (h : SmallG ts) {ls : List (Option Int)} (hl : ∀ l ∈ ls, 0 ≤ lmI l ∧ lmI l ≤ 8) {x0 x1 x2 x6 x7 x8 : Option PyData} : ∃ e', loopD (gB 6) lb1_law (ls.map lmD) [x0, x1, x2, some (.tuple (ts.map Tab.enc)), some (.int (sumP ts)), some (.list ((WD ts).map .tuple)), x6, x7, x8, none] = some (.nx e') ∧ ∃ y6 y8, e' = [x0, x1, x2, some (.tuple (ts.map Tab.enc)), some (.int (sumP ts)), some (.list ((WD ts).map .tuple)), y6, x7, y8, none] := by
  refine loop_inv (fun _ e => ∃ y6 y8, e = [x0, x1, x2, some (.tuple (ts.map Tab.enc)), some (.int (sumP ts)), some (.list ((WD ts).map .tuple)), y6, x7, y8, none]) ⟨x6, x8, rfl⟩ fun i d e hd hi => ?_
  obtain ⟨y6, y8, rfl⟩ := hi
  rw [List.getElem?_map] at hd
  cases hc : ls[i]? with
  | none =>
    rw [hc] at hd
    cases hd
  | some l =>
    rw [hc] at hd
    cases hd
    obtain ⟨h0, h8⟩ := hl l (List.mem_of_getElem? hc)
    obtain ⟨z, st⟩ := limit_step h h0 h8 (x0 := x0) (x1 := x1) (x2 := x2) (x7 := x7) (x8 := y8)
    exact ⟨_, _, rfl, .inl st, _, _, rfl⟩
/-! ### one cell -/
theorem sumP_perm {as bs : List Tab} (h : as.Perm bs) : sumP as = sumP bs := by
  induction h with
  | nil => rfl
  | cons x _ ih => show prodM x.cols + sumP _ = prodM x.cols + sumP _; rw [ih]
  | swap x y l =>
    show prodM y.cols + (prodM x.cols + sumP l) = prodM x.cols + (prodM y.cols + sumP l)
    omega
  | trans _ _ i1 i2 => rw [i1, i2]
theorem ground_ok {ts : List Tab} {top : Int} (h : TabsOk ts top) (ht : top ≤ 100000) : (∀ t ∈ ts.mergeSort tabLe, t.Ok) ∧ sumP (ts.mergeSort tabLe) ≤ top := by
  have e := sumP_perm (List.mergeSort_perm ts tabLe)
  refine ⟨fun t hm => ?_, by rw [e]; exact h.room⟩
  have hm := List.mem_mergeSort.mp hm
  have g := h.each t hm
  have p := (prod_sum h.each).1 t hm
  have := h.room
  exact ⟨fun c hc => (g.cols.1 c hc).1, g.key, g.some, g.few, by omega⟩
theorem tops {x : Int} : ∃ top, dIx (.list [.int 8, .int 8, .int 5, .int 9]) (.int (x % 4)) = some (.int top) ∧ 1 ≤ top ∧ top ≤ 9 := by
  have h1 := Int.emod_nonneg x (show (4 : Int) ≠ 0 by decide)
  have h2 := Int.emod_lt_of_pos x (show (0 : Int) < 4 by decide)
  generalize x % 4 = y at h1 h2
  have : y = 0 ∨ y = 1 ∨ y = 2 ∨ y = 3 := by omega
  rcases this with rfl | rfl | rfl | rfl
  · exact ⟨8, rfl, by decide, by decide⟩
  · exact ⟨8, rfl, by decide, by decide⟩
  · exact ⟨5, rfl, by decide, by decide⟩
  · exact ⟨9, rfl, by decide, by decide⟩
theorem many_sum {ts : List Tab} {lb : En → Option PyData} {i : Nat} {env : En} (hlb : lb = mCB bLen (mCons (mCB fm_law_possible (mCons (mVar 9) mNil)) mNil)) (hi : mVar i env = some (.tuple (ts.map Tab.enc))) (he : ∀ d, mVar 9 ((wipeD env [9]).set 9 (some d)) = some d) (h : ∀ t ∈ ts, t.Ok) (hp : ∀ t ∈ ts, prodM t.cols ≤ 90000) (hl : ts.length ≤ 4) : mCB bSum (mCons (mLc [9] (mIt (mVar i)) (gB 9) mYes lb) mNil) env = some (.int (sumP ts)) := by
  refine ev_cb (ds := [.list ((ts.map fun t => prodM t.cols).map .int)]) (ev_cons (ev_lc (ds := ts.map Tab.enc) (ev_it hi rfl) ?_ (line_big (by rw [List.length_map, List.length_map]; omega))) rfl) ?_
  · rw [List.map_map]
    refine lc_all (enc := Tab.enc) (f := PyData.int ∘ fun t => prodM t.cols) fun t ht => ⟨_, gB_ap _ _ _, ?_⟩
    rw [hlb]
    refine ev_cb (ev_cons (d := .list ((rowsL t.cols).map encR)) (ev_cb (ev_cons (he _) rfl) (law_possible_eq (h t ht).cols (h t ht).few (hp t ht))) rfl) ?_
    show some (PyData.int (((rowsL t.cols).map encR).length : Nat)) = some (PyData.int (prodM t.cols))
    rw [List.length_map, rowsL_count (h t ht).cols]
  · rw [sum_ints, sumP_sum]
theorem min2_eq (i j : Int) : bMin2 [.int i, .int j] = some (.int (min i j)) := by
  show some (PyData.int (if j < i then j else i)) = _
  congr 2
  split <;> omega
theorem max2_eq (i j : Int) : bMax2 [.int i, .int j] = some (.int (max i j)) := by
  show some (PyData.int (if j > i then j else i)) = _
  congr 2
  split <;> omega
theorem one_cell {x0 : Option PyData} (c : Int) (z2 z3 z4 z5 z6 z7 z8 : Option PyData) : ∃ e', lb2_law [x0, some (.int c), z2, z3, z4, z5, z6, z7, z8, none] = some (.nx e') ∧ ∃ z1 z2 z3 z4 z5 z6 z7 z8, e' = [x0, z1, z2, z3, z4, z5, z6, z7, z8, none] := by
  obtain ⟨ps, d1, d2, d3⟩ := draws_eq c 320 (by decide)
  obtain ⟨top, t1, t2, t3⟩ := tops (x := ps.getD 300 0)
  obtain ⟨ts0, g1, g2, g3, g4⟩ := ground_eq (ps := ps) (top := top) (by omega) d3 t2 (by omega)
  obtain ⟨us0, w1, w2, w3, w4⟩ := ground_eq (ps := ps.drop 150) (top := 60) (by rw [List.length_drop]; omega) (fun x hx => d3 x (List.mem_of_mem_drop hx)) (by decide) (by decide)
  obtain ⟨o1, o2⟩ := ground_ok g2 (by omega)
  obtain ⟨p1, p2⟩ := ground_ok w2 (by omega)
  have l1 : (ts0.mergeSort tabLe).length ≤ 4 := by rw [List.length_mergeSort]; exact g3
  have l2 : (us0.mergeSort tabLe).length ≤ 4 := by rw [List.length_mergeSort]; exact w3
  generalize ts0.mergeSort tabLe = ts at g1 o1 o2 l1
  generalize us0.mergeSort tabLe = us at w1 p1 p2 l2
  have sg : SmallG ts := ⟨o1, l1, by omega⟩
  have su := (sumP_parts p1).1
  have s0 := (sumP_parts o1).2
  have hp : ps.getD 301 0 % 9 < 9 ∧ 0 ≤ ps.getD 301 0 % 9 := ⟨Int.emod_lt_of_pos _ (by decide), Int.emod_nonneg _ (by decide)⟩
  obtain ⟨e', h1, y6, y8, rfl⟩ := limits_loop sg (ls := [none, some (ps.getD 301 0 % 9), some (min (sumP ts) 8), some (max 0 (min (sumP ts - 1) 8))]) (fun l hl => by
    simp only [List.mem_cons, List.mem_nil_iff, or_false] at hl
    rcases hl with rfl | rfl | rfl | rfl
    · exact ⟨by decide, by decide⟩
    · exact ⟨hp.2, by show ps.getD 301 0 % 9 ≤ 8; omega⟩
    · exact ⟨by show 0 ≤ min (sumP ts) 8; omega, by show min (sumP ts) 8 ≤ 8; omega⟩
    · exact ⟨by show 0 ≤ max 0 (min (sumP ts - 1) 8); omega, by show max 0 (min (sumP ts - 1) 8) ≤ 8; omega⟩) (x0 := x0) (x1 := some (.int c)) (x2 := some (.list (ps.map .int))) (x6 := z6) (x7 := z7) (x8 := z8)
  refine ⟨[x0, some (.int c), some (.list (ps.map .int)), some (.tuple (ts.map Tab.enc)), some (.int (sumP ts)), some (.list ((WD ts).map .tuple)), y6, some (.tuple (us.map Tab.enc)), y8, none], ?_, _, _, _, _, _, _, _, _, rfl⟩
  unfold lb2_law
  refine ev_set (d := .list (ps.map .int)) (ev_cb (ev_cons rfl (ev_cons rfl (ev_cons rfl rfl))) d1) ?_
  refine ev_set (d := .tuple (ts.map Tab.enc)) (ev_cb (ev_cons rfl (ev_cons (d := .int top) (ev_bin (a := .list [.int 8, .int 8, .int 5, .int 9]) (b := .int (ps.getD 300 0 % 4)) rfl (ev_bin (ev_bin rfl rfl (pick_get (k := 300) (by omega))) rfl (dMod_int (by decide))) t1) rfl)) g1) ?_
  refine ev_set (d := .int (sumP ts)) (many_sum rfl rfl (fun _ => rfl) o1 (fun t ht => by have := sg.each t ht; omega) l1) ?_
  refine ev_set (d := .list ((WD ts).map .tuple)) (ev_cb (ev_cons rfl rfl) (law_worlds_eq sg)) ?_
  refine ev_ifF (env' := [x0, some (.int c), some (.list (ps.map .int)), some (.tuple (ts.map Tab.enc)), some (.int (sumP ts)), some (.list ((WD ts).map .tuple)), z6, z7, z8, none]) (ev_orF (ev_tst (ev_bin (ev_cb (ev_cons rfl rfl) (count_worlds_eq o1 l1)) (ev_cb (o := some (.int (prodC ts))) (ev_cons rfl rfl) ?_) ?_)) (ev_tst (ev_bin rfl rfl ?_))) rfl ?_
  · show some (PyData.int (((WD ts).map PyData.tuple).length : Nat)) = _
    rw [List.length_map, sg.count]
  · rw [dNe_int]
    simp
  · show dNe (.int 8) (.int 8) = _
    rw [dNe_int]
    simp
  refine ev_for (ds := [none, some (ps.getD 301 0 % 9), some (min (sumP ts) 8), some (max 0 (min (sumP ts - 1) 8))].map lmD) ?_ h1 ?_
  · refine ev_it (ev_lst (ev_cons (d := .none) rfl (ev_cons (d := .int (ps.getD 301 0 % 9)) (ev_bin (ev_bin rfl rfl (pick_get (k := 301) (by omega))) rfl (dMod_int (by decide))) (ev_cons (d := .int (min (sumP ts) 8)) (ev_cb (ev_cons rfl (ev_cons rfl rfl)) ?_) (ev_cons (d := .int (max 0 (min (sumP ts - 1) 8))) (ev_cb (ev_cons rfl (ev_cons (d := .int (min (sumP ts - 1) 8)) (ev_cb (ev_cons (ev_bin rfl rfl rfl) (ev_cons rfl rfl)) ?_) rfl)) ?_) rfl)))) (show 4 ≤ sizeLine by decide)) rfl
    · exact min2_eq _ _
    · exact min2_eq _ _
    · exact max2_eq _ _
  refine ev_set (d := .tuple (us.map Tab.enc)) (ev_cb (ev_cons (d := .list ((ps.drop 150).map .int)) (ev_sl rfl (ev_part (i := 150) rfl) rfl (slice_ints_from (a := 150) rfl)) (ev_cons rfl rfl)) w1) ?_
  by_cases hm : 8 < sumP us
  · have k := law_all_eq (l := none) (all_worlds_many p1 l2 (by decide) (by decide) (show lmI none < sumP us from hm)) (fun c z => by injection z with z; exact z.symm)
    refine ev_if1T (ev_tst (ev_bin (many_sum rfl rfl (fun _ => rfl) p1 (fun t ht => by have := su t ht; omega) l2) rfl ?_)) (ev_if1F (ev_tst (ev_bin (a := tooD) (b := tooD) (ev_cb (ev_cons rfl (ev_cons (d := .none) rfl rfl)) k) rfl (dNe_self shaped_too))) rfl)
    rw [dGt_int, decide_eq_true hm]
  · refine ev_if1F (ev_tst (ev_bin (many_sum rfl rfl (fun _ => rfl) p1 (fun t ht => by have := su t ht; omega) l2) rfl ?_)) rfl
    rw [dGt_int, decide_eq_false hm]
theorem law_true : ∀ ns : List Int, ns.length ≤ 63 → fm_law [.list (ns.map .int)] = some (.bool true) := fun ns hl => by
  generalize hc : (ns.getD 0 0 :: ((ns.drop 1).take 3)) = cells
  have loop : ∃ e', loopD (gB 1) lb2_law (cells.map .int) [some (.list (ns.map .int)), none, none, none, none, none, none, none, none, none] = some (.nx e') ∧ ∃ z1 z2 z3 z4 z5 z6 z7 z8, e' = [some (.list (ns.map .int)), z1, z2, z3, z4, z5, z6, z7, z8, none] := by
    refine loop_inv (fun _ e => ∃ z1 z2 z3 z4 z5 z6 z7 z8, e = [some (.list (ns.map .int)), z1, z2, z3, z4, z5, z6, z7, z8, none]) ⟨none, none, none, none, none, none, none, none, rfl⟩ fun i d e hd hi => ?_
    obtain ⟨z1, z2, z3, z4, z5, z6, z7, z8, rfl⟩ := hi
    rw [List.getElem?_map] at hd
    cases hx : cells[i]? with
    | none =>
      rw [hx] at hd
      cases hd
    | some c =>
      rw [hx] at hd
      cases hd
      obtain ⟨e', h1, h2⟩ := one_cell (x0 := some (.list (ns.map .int))) c z2 z3 z4 z5 z6 z7 z8
      exact ⟨_, e', rfl, .inl h1, h2⟩
  obtain ⟨e', h1, z1, z2, z3, z4, z5, z6, z7, z8, rfl⟩ := loop
  unfold fm_law mb_law
  refine ev_run (d := .bool true) ?_ rfl
  refine ev_for (ds := cells.map .int) (ev_it (d := .list (cells.map .int)) (ev_bin (a := .list [.int (ns.getD 0 0)]) (b := .list (((ns.drop 1).take 3).map .int)) (ev_lst (ev_cons (ev_cb (ev_cons rfl (ev_cons rfl rfl)) (cell_eq ns hl)) rfl) (show 1 ≤ sizeLine by decide)) (ev_sl rfl (ev_part (i := 1) rfl) (ev_part (i := 4) rfl) ?_) ?_) rfl) h1 (ev_ret rfl)
  · exact slice_ints (a := 1) (b := 4) rfl rfl
  · rw [dAdd_list (by rw [List.length_map, List.length_take]; simp; omega), ← hc]
    rfl

end Rv
namespace Rv
open PySem L2 PySem.Spec PyProof.Rows
/-! what the top has left -/
theorem all_mk {l : PySem.W.OpenLaw} {w : World} {K : PySem.W.Frag} {h : Heap} {mg : Str → Option Value} {fa : Addr} (X : K.In h) (G : h.Ns mainGlobals mg) (hfa : mg "law" = some (.ref fa))
    {t_EMPTY : Tok} {t_MOST_IN_TABLE : Tok} {t_MOST_ROWS : Tok} {f_column_values : Addr} {od_column_values an_column_values : Option Addr} {sl_column_values : Array (Option Value)} {oc_column_values dc_column_values pm_column_values cd_column_values ct_column_values : Value} {kV_column_values : Value} {f_key_of : Addr} {od_key_of an_key_of : Option Addr} {sl_key_of : Array (Option Value)} {oc_key_of dc_key_of pm_key_of cd_key_of ct_key_of : Value} {kV_key_of : Value} {f_possible_rows : Addr} {od_possible_rows an_possible_rows : Option Addr} {sl_possible_rows : Array (Option Value)} {oc_possible_rows dc_possible_rows pm_possible_rows cd_possible_rows ct_possible_rows : Value} {kV_possible_rows : Value} {f_count_rows : Addr} {od_count_rows an_count_rows : Option Addr} {sl_count_rows : Array (Option Value)} {oc_count_rows dc_count_rows pm_count_rows cd_count_rows ct_count_rows : Value} {kV_count_rows : Value} {f_all_contents : Addr} {od_all_contents an_all_contents : Option Addr} {sl_all_contents : Array (Option Value)} {oc_all_contents dc_all_contents pm_all_contents cd_all_contents ct_all_contents : Value} {kV_all_contents : Value} {f_may_follow : Addr} {od_may_follow an_may_follow : Option Addr} {sl_may_follow : Array (Option Value)} {oc_may_follow dc_may_follow pm_may_follow cd_may_follow ct_may_follow : Value} {kV_may_follow : Value} {f_check_few_rows : Addr} {od_check_few_rows an_check_few_rows : Option Addr} {sl_check_few_rows : Array (Option Value)} {oc_check_few_rows dc_check_few_rows pm_check_few_rows cd_check_few_rows ct_check_few_rows : Value} {kV_check_few_rows : Value} {f_all_worlds : Addr} {od_all_worlds an_all_worlds : Option Addr} {sl_all_worlds : Array (Option Value)} {oc_all_worlds dc_all_worlds pm_all_worlds cd_all_worlds ct_all_worlds : Value} {f_count_contents : Addr} {od_count_contents an_count_contents : Option Addr} {sl_count_contents : Array (Option Value)} {oc_count_contents dc_count_contents pm_count_contents cd_count_contents ct_count_contents : Value} {kV_count_contents : Value} {f_count_worlds : Addr} {od_count_worlds an_count_worlds : Option Addr} {sl_count_worlds : Array (Option Value)} {oc_count_worlds dc_count_worlds pm_count_worlds cd_count_worlds ct_count_worlds : Value} {kV_count_worlds : Value} {f_law_cell_at : Addr} {od_law_cell_at an_law_cell_at : Option Addr} {sl_law_cell_at : Array (Option Value)} {oc_law_cell_at dc_law_cell_at pm_law_cell_at cd_law_cell_at ct_law_cell_at : Value} {kV_law_cell_at : Value} {f_law_draws : Addr} {od_law_draws an_law_draws : Option Addr} {sl_law_draws : Array (Option Value)} {oc_law_draws dc_law_draws pm_law_draws cd_law_draws ct_law_draws : Value} {kV_law_draws : Value} {f_law_name : Addr} {od_law_name an_law_name : Option Addr} {sl_law_name : Array (Option Value)} {oc_law_name dc_law_name pm_law_name cd_law_name ct_law_name : Value} {kV_law_name : Value} {f_law_columns : Addr} {od_law_columns an_law_columns : Option Addr} {sl_law_columns : Array (Option Value)} {oc_law_columns dc_law_columns pm_law_columns cd_law_columns ct_law_columns : Value} {kV_law_columns : Value} {f_law_ground : Addr} {od_law_ground an_law_ground : Option Addr} {sl_law_ground : Array (Option Value)} {oc_law_ground dc_law_ground pm_law_ground cd_law_ground ct_law_ground : Value} {kV_law_ground : Value} {f_law_possible : Addr} {od_law_possible an_law_possible : Option Addr} {sl_law_possible : Array (Option Value)} {oc_law_possible dc_law_possible pm_law_possible cd_law_possible ct_law_possible : Value} {kV_law_possible : Value} {f_law_worlds : Addr} {od_law_worlds an_law_worlds : Option Addr} {sl_law_worlds : Array (Option Value)} {oc_law_worlds dc_law_worlds pm_law_worlds cd_law_worlds ct_law_worlds : Value} {kV_law_worlds : Value} {f_law_kin : Addr} {od_law_kin an_law_kin : Option Addr} {sl_law_kin : Array (Option Value)} {oc_law_kin dc_law_kin pm_law_kin cd_law_kin ct_law_kin : Value} {kV_law_kin : Value} {f_law_all : Addr} {od_law_all an_law_all : Option Addr} {sl_law_all : Array (Option Value)} {oc_law_all dc_law_all pm_law_all cd_law_all ct_law_all : Value} {kV_law_all : Value} {f_law : Addr} {od_law an_law : Option Addr} {sl_law : Array (Option Value)} {oc_law dc_law pm_law cd_law ct_law : Value} {kV_law : Value} {kw_all_worlds : Addr} {tk_all_worlds_0 : Tok} {C_TooMany : Addr} {C_NoAsk : Addr} {C_NoRight : Addr} {C_NoRow : Addr} {C_NotLet : Addr} {C_Taken : Addr} {C_Full : Addr} {C_NoCondition : Addr} {C_NoGround : Addr} {C_NoRule : Addr} {C_Twice : Addr} {C_NotThere : Addr} {C_NoView : Addr} {C_InUse : Addr} {C_NoTable : Addr} {C_NoUser : Addr} {C_NoneOpen : Addr} {C_TooDeep : Addr} {C_NoDeeds : Addr} {C_NoText : Addr} {C_NoLine : Addr} {C_VeilError : Addr}
    (a_EMPTY : PySem.W.nsIn K mainGlobals "EMPTY" = some (some (.int (-1) t_EMPTY)))
    (a_MOST_IN_TABLE : PySem.W.nsIn K mainGlobals "MOST_IN_TABLE" = some (some (.int 12 t_MOST_IN_TABLE)))
    (a_MOST_ROWS : PySem.W.nsIn K mainGlobals "MOST_ROWS" = some (some (.int 8 t_MOST_ROWS)))
    (z_list : PySem.W.nsIn K mainGlobals "list" = some none)
    (z_range : PySem.W.nsIn K mainGlobals "range" = some none)
    (z_len : PySem.W.nsIn K mainGlobals "len" = some none)
    (z_sorted : PySem.W.nsIn K mainGlobals "sorted" = some none)
    (z_sum : PySem.W.nsIn K mainGlobals "sum" = some none)
    (z_int : PySem.W.nsIn K mainGlobals "int" = some none)
    (z_tuple : PySem.W.nsIn K mainGlobals "tuple" = some none)
    (z_min : PySem.W.nsIn K mainGlobals "min" = some none)
    (z_any : PySem.W.nsIn K mainGlobals "any" = some none)
    (z_max : PySem.W.nsIn K mainGlobals "max" = some none)
    (z_isinstance : PySem.W.nsIn K mainGlobals "isinstance" = some none)
    (z_ValueError : PySem.W.nsIn K mainGlobals "ValueError" = some none)
    (a_column_values : PySem.W.nsIn K mainGlobals "column_values" = some (some (.ref f_column_values)))
    (l_column_values : K.lookup f_column_values = some ⟨oc_column_values, od_column_values, .func (PySem.W.fnOf "column_values" "column_values" (defArgs s_column_values) (defBody s_column_values) (defScope s_column_values) .none kV_column_values dc_column_values pm_column_values an_column_values cd_column_values ct_column_values), sl_column_values⟩)
    (c_column_values : PySem.W.codeIn K cd_column_values "column_values" = true)
    (k_column_values : PySem.W.keepIn K (.ref f_column_values) = true)
    (a_key_of : PySem.W.nsIn K mainGlobals "key_of" = some (some (.ref f_key_of)))
    (l_key_of : K.lookup f_key_of = some ⟨oc_key_of, od_key_of, .func (PySem.W.fnOf "key_of" "key_of" (defArgs s_key_of) (defBody s_key_of) (defScope s_key_of) .none kV_key_of dc_key_of pm_key_of an_key_of cd_key_of ct_key_of), sl_key_of⟩)
    (c_key_of : PySem.W.codeIn K cd_key_of "key_of" = true)
    (k_key_of : PySem.W.keepIn K (.ref f_key_of) = true)
    (a_possible_rows : PySem.W.nsIn K mainGlobals "possible_rows" = some (some (.ref f_possible_rows)))
    (l_possible_rows : K.lookup f_possible_rows = some ⟨oc_possible_rows, od_possible_rows, .func (PySem.W.fnOf "possible_rows" "possible_rows" (defArgs s_possible_rows) (defBody s_possible_rows) (defScope s_possible_rows) .none kV_possible_rows dc_possible_rows pm_possible_rows an_possible_rows cd_possible_rows ct_possible_rows), sl_possible_rows⟩)
    (c_possible_rows : PySem.W.codeIn K cd_possible_rows "possible_rows" = true)
    (k_possible_rows : PySem.W.keepIn K (.ref f_possible_rows) = true)
    (a_count_rows : PySem.W.nsIn K mainGlobals "count_rows" = some (some (.ref f_count_rows)))
    (l_count_rows : K.lookup f_count_rows = some ⟨oc_count_rows, od_count_rows, .func (PySem.W.fnOf "count_rows" "count_rows" (defArgs s_count_rows) (defBody s_count_rows) (defScope s_count_rows) .none kV_count_rows dc_count_rows pm_count_rows an_count_rows cd_count_rows ct_count_rows), sl_count_rows⟩)
    (c_count_rows : PySem.W.codeIn K cd_count_rows "count_rows" = true)
    (k_count_rows : PySem.W.keepIn K (.ref f_count_rows) = true)
    (a_all_contents : PySem.W.nsIn K mainGlobals "all_contents" = some (some (.ref f_all_contents)))
    (l_all_contents : K.lookup f_all_contents = some ⟨oc_all_contents, od_all_contents, .func (PySem.W.fnOf "all_contents" "all_contents" (defArgs s_all_contents) (defBody s_all_contents) (defScope s_all_contents) .none kV_all_contents dc_all_contents pm_all_contents an_all_contents cd_all_contents ct_all_contents), sl_all_contents⟩)
    (c_all_contents : PySem.W.codeIn K cd_all_contents "all_contents" = true)
    (k_all_contents : PySem.W.keepIn K (.ref f_all_contents) = true)
    (a_may_follow : PySem.W.nsIn K mainGlobals "may_follow" = some (some (.ref f_may_follow)))
    (l_may_follow : K.lookup f_may_follow = some ⟨oc_may_follow, od_may_follow, .func (PySem.W.fnOf "may_follow" "may_follow" (defArgs s_may_follow) (defBody s_may_follow) (defScope s_may_follow) .none kV_may_follow dc_may_follow pm_may_follow an_may_follow cd_may_follow ct_may_follow), sl_may_follow⟩)
    (c_may_follow : PySem.W.codeIn K cd_may_follow "may_follow" = true)
    (k_may_follow : PySem.W.keepIn K (.ref f_may_follow) = true)
    (a_check_few_rows : PySem.W.nsIn K mainGlobals "check_few_rows" = some (some (.ref f_check_few_rows)))
    (l_check_few_rows : K.lookup f_check_few_rows = some ⟨oc_check_few_rows, od_check_few_rows, .func (PySem.W.fnOf "check_few_rows" "check_few_rows" (defArgs s_check_few_rows) (defBody s_check_few_rows) (defScope s_check_few_rows) .none kV_check_few_rows dc_check_few_rows pm_check_few_rows an_check_few_rows cd_check_few_rows ct_check_few_rows), sl_check_few_rows⟩)
    (c_check_few_rows : PySem.W.codeIn K cd_check_few_rows "check_few_rows" = true)
    (k_check_few_rows : PySem.W.keepIn K (.ref f_check_few_rows) = true)
    (a_all_worlds : PySem.W.nsIn K mainGlobals "all_worlds" = some (some (.ref f_all_worlds)))
    (l_all_worlds : K.lookup f_all_worlds = some ⟨oc_all_worlds, od_all_worlds, .func (PySem.W.fnOf "all_worlds" "all_worlds" (defArgs s_all_worlds) (defBody s_all_worlds) (defScope s_all_worlds) .none (.ref kw_all_worlds) dc_all_worlds pm_all_worlds an_all_worlds cd_all_worlds ct_all_worlds), sl_all_worlds⟩)
    (c_all_worlds : PySem.W.codeIn K cd_all_worlds "all_worlds" = true)
    (k_all_worlds : PySem.W.keepIn K (.ref f_all_worlds) = true)
    (a_count_contents : PySem.W.nsIn K mainGlobals "count_contents" = some (some (.ref f_count_contents)))
    (l_count_contents : K.lookup f_count_contents = some ⟨oc_count_contents, od_count_contents, .func (PySem.W.fnOf "count_contents" "count_contents" (defArgs s_count_contents) (defBody s_count_contents) (defScope s_count_contents) .none kV_count_contents dc_count_contents pm_count_contents an_count_contents cd_count_contents ct_count_contents), sl_count_contents⟩)
    (c_count_contents : PySem.W.codeIn K cd_count_contents "count_contents" = true)
    (k_count_contents : PySem.W.keepIn K (.ref f_count_contents) = true)
    (a_count_worlds : PySem.W.nsIn K mainGlobals "count_worlds" = some (some (.ref f_count_worlds)))
    (l_count_worlds : K.lookup f_count_worlds = some ⟨oc_count_worlds, od_count_worlds, .func (PySem.W.fnOf "count_worlds" "count_worlds" (defArgs s_count_worlds) (defBody s_count_worlds) (defScope s_count_worlds) .none kV_count_worlds dc_count_worlds pm_count_worlds an_count_worlds cd_count_worlds ct_count_worlds), sl_count_worlds⟩)
    (c_count_worlds : PySem.W.codeIn K cd_count_worlds "count_worlds" = true)
    (k_count_worlds : PySem.W.keepIn K (.ref f_count_worlds) = true)
    (a_law_cell_at : PySem.W.nsIn K mainGlobals "_law_cell_at" = some (some (.ref f_law_cell_at)))
    (l_law_cell_at : K.lookup f_law_cell_at = some ⟨oc_law_cell_at, od_law_cell_at, .func (PySem.W.fnOf "_law_cell_at" "_law_cell_at" (defArgs s_law_cell_at) (defBody s_law_cell_at) (defScope s_law_cell_at) .none kV_law_cell_at dc_law_cell_at pm_law_cell_at an_law_cell_at cd_law_cell_at ct_law_cell_at), sl_law_cell_at⟩)
    (c_law_cell_at : PySem.W.codeIn K cd_law_cell_at "_law_cell_at" = true)
    (k_law_cell_at : PySem.W.keepIn K (.ref f_law_cell_at) = true)
    (a_law_draws : PySem.W.nsIn K mainGlobals "_law_draws" = some (some (.ref f_law_draws)))
    (l_law_draws : K.lookup f_law_draws = some ⟨oc_law_draws, od_law_draws, .func (PySem.W.fnOf "_law_draws" "_law_draws" (defArgs s_law_draws) (defBody s_law_draws) (defScope s_law_draws) .none kV_law_draws dc_law_draws pm_law_draws an_law_draws cd_law_draws ct_law_draws), sl_law_draws⟩)
    (c_law_draws : PySem.W.codeIn K cd_law_draws "_law_draws" = true)
    (k_law_draws : PySem.W.keepIn K (.ref f_law_draws) = true)
    (a_law_name : PySem.W.nsIn K mainGlobals "_law_name" = some (some (.ref f_law_name)))
    (l_law_name : K.lookup f_law_name = some ⟨oc_law_name, od_law_name, .func (PySem.W.fnOf "_law_name" "_law_name" (defArgs s_law_name) (defBody s_law_name) (defScope s_law_name) .none kV_law_name dc_law_name pm_law_name an_law_name cd_law_name ct_law_name), sl_law_name⟩)
    (c_law_name : PySem.W.codeIn K cd_law_name "_law_name" = true)
    (k_law_name : PySem.W.keepIn K (.ref f_law_name) = true)
    (a_law_columns : PySem.W.nsIn K mainGlobals "_law_columns" = some (some (.ref f_law_columns)))
    (l_law_columns : K.lookup f_law_columns = some ⟨oc_law_columns, od_law_columns, .func (PySem.W.fnOf "_law_columns" "_law_columns" (defArgs s_law_columns) (defBody s_law_columns) (defScope s_law_columns) .none kV_law_columns dc_law_columns pm_law_columns an_law_columns cd_law_columns ct_law_columns), sl_law_columns⟩)
    (c_law_columns : PySem.W.codeIn K cd_law_columns "_law_columns" = true)
    (k_law_columns : PySem.W.keepIn K (.ref f_law_columns) = true)
    (a_law_ground : PySem.W.nsIn K mainGlobals "_law_ground" = some (some (.ref f_law_ground)))
    (l_law_ground : K.lookup f_law_ground = some ⟨oc_law_ground, od_law_ground, .func (PySem.W.fnOf "_law_ground" "_law_ground" (defArgs s_law_ground) (defBody s_law_ground) (defScope s_law_ground) .none kV_law_ground dc_law_ground pm_law_ground an_law_ground cd_law_ground ct_law_ground), sl_law_ground⟩)
    (c_law_ground : PySem.W.codeIn K cd_law_ground "_law_ground" = true)
    (k_law_ground : PySem.W.keepIn K (.ref f_law_ground) = true)
    (a_law_possible : PySem.W.nsIn K mainGlobals "_law_possible" = some (some (.ref f_law_possible)))
    (l_law_possible : K.lookup f_law_possible = some ⟨oc_law_possible, od_law_possible, .func (PySem.W.fnOf "_law_possible" "_law_possible" (defArgs s_law_possible) (defBody s_law_possible) (defScope s_law_possible) .none kV_law_possible dc_law_possible pm_law_possible an_law_possible cd_law_possible ct_law_possible), sl_law_possible⟩)
    (c_law_possible : PySem.W.codeIn K cd_law_possible "_law_possible" = true)
    (k_law_possible : PySem.W.keepIn K (.ref f_law_possible) = true)
    (a_law_worlds : PySem.W.nsIn K mainGlobals "_law_worlds" = some (some (.ref f_law_worlds)))
    (l_law_worlds : K.lookup f_law_worlds = some ⟨oc_law_worlds, od_law_worlds, .func (PySem.W.fnOf "_law_worlds" "_law_worlds" (defArgs s_law_worlds) (defBody s_law_worlds) (defScope s_law_worlds) .none kV_law_worlds dc_law_worlds pm_law_worlds an_law_worlds cd_law_worlds ct_law_worlds), sl_law_worlds⟩)
    (c_law_worlds : PySem.W.codeIn K cd_law_worlds "_law_worlds" = true)
    (k_law_worlds : PySem.W.keepIn K (.ref f_law_worlds) = true)
    (a_law_kin : PySem.W.nsIn K mainGlobals "_law_kin" = some (some (.ref f_law_kin)))
    (l_law_kin : K.lookup f_law_kin = some ⟨oc_law_kin, od_law_kin, .func (PySem.W.fnOf "_law_kin" "_law_kin" (defArgs s_law_kin) (defBody s_law_kin) (defScope s_law_kin) .none kV_law_kin dc_law_kin pm_law_kin an_law_kin cd_law_kin ct_law_kin), sl_law_kin⟩)
    (c_law_kin : PySem.W.codeIn K cd_law_kin "_law_kin" = true)
    (k_law_kin : PySem.W.keepIn K (.ref f_law_kin) = true)
    (a_law_all : PySem.W.nsIn K mainGlobals "_law_all" = some (some (.ref f_law_all)))
    (l_law_all : K.lookup f_law_all = some ⟨oc_law_all, od_law_all, .func (PySem.W.fnOf "_law_all" "_law_all" (defArgs s_law_all) (defBody s_law_all) (defScope s_law_all) .none kV_law_all dc_law_all pm_law_all an_law_all cd_law_all ct_law_all), sl_law_all⟩)
    (c_law_all : PySem.W.codeIn K cd_law_all "_law_all" = true)
    (k_law_all : PySem.W.keepIn K (.ref f_law_all) = true)
    (a_law : PySem.W.nsIn K mainGlobals "law" = some (some (.ref f_law)))
    (l_law : K.lookup f_law = some ⟨oc_law, od_law, .func (PySem.W.fnOf "law" "law" (defArgs s_law) (defBody s_law) (defScope s_law) .none kV_law dc_law pm_law an_law cd_law ct_law), sl_law⟩)
    (c_law : PySem.W.codeIn K cd_law "law" = true)
    (k_law : PySem.W.keepIn K (.ref f_law) = true)
    (kd_all_worlds_0 : PySem.W.nsIn K kw_all_worlds "most" = some (some (.int 8 tk_all_worlds_0)))
    (ac_TooMany : PySem.W.nsIn K mainGlobals "TooMany" = some (some (.ref C_TooMany)))
    (tc_TooMany : PySem.W.typeIn K (.ref C_TooMany) = some (.type "type"))
    (ic_TooMany : PySem.W.isClsIn K C_TooMany = true)
    (ac_NoAsk : PySem.W.nsIn K mainGlobals "NoAsk" = some (some (.ref C_NoAsk)))
    (tc_NoAsk : PySem.W.typeIn K (.ref C_NoAsk) = some (.type "type"))
    (ic_NoAsk : PySem.W.isClsIn K C_NoAsk = true)
    (ac_NoRight : PySem.W.nsIn K mainGlobals "NoRight" = some (some (.ref C_NoRight)))
    (tc_NoRight : PySem.W.typeIn K (.ref C_NoRight) = some (.type "type"))
    (ic_NoRight : PySem.W.isClsIn K C_NoRight = true)
    (ac_NoRow : PySem.W.nsIn K mainGlobals "NoRow" = some (some (.ref C_NoRow)))
    (tc_NoRow : PySem.W.typeIn K (.ref C_NoRow) = some (.type "type"))
    (ic_NoRow : PySem.W.isClsIn K C_NoRow = true)
    (ac_NotLet : PySem.W.nsIn K mainGlobals "NotLet" = some (some (.ref C_NotLet)))
    (tc_NotLet : PySem.W.typeIn K (.ref C_NotLet) = some (.type "type"))
    (ic_NotLet : PySem.W.isClsIn K C_NotLet = true)
    (ac_Taken : PySem.W.nsIn K mainGlobals "Taken" = some (some (.ref C_Taken)))
    (tc_Taken : PySem.W.typeIn K (.ref C_Taken) = some (.type "type"))
    (ic_Taken : PySem.W.isClsIn K C_Taken = true)
    (ac_Full : PySem.W.nsIn K mainGlobals "Full" = some (some (.ref C_Full)))
    (tc_Full : PySem.W.typeIn K (.ref C_Full) = some (.type "type"))
    (ic_Full : PySem.W.isClsIn K C_Full = true)
    (ac_NoCondition : PySem.W.nsIn K mainGlobals "NoCondition" = some (some (.ref C_NoCondition)))
    (tc_NoCondition : PySem.W.typeIn K (.ref C_NoCondition) = some (.type "type"))
    (ic_NoCondition : PySem.W.isClsIn K C_NoCondition = true)
    (ac_NoGround : PySem.W.nsIn K mainGlobals "NoGround" = some (some (.ref C_NoGround)))
    (tc_NoGround : PySem.W.typeIn K (.ref C_NoGround) = some (.type "type"))
    (ic_NoGround : PySem.W.isClsIn K C_NoGround = true)
    (ac_NoRule : PySem.W.nsIn K mainGlobals "NoRule" = some (some (.ref C_NoRule)))
    (tc_NoRule : PySem.W.typeIn K (.ref C_NoRule) = some (.type "type"))
    (ic_NoRule : PySem.W.isClsIn K C_NoRule = true)
    (ac_Twice : PySem.W.nsIn K mainGlobals "Twice" = some (some (.ref C_Twice)))
    (tc_Twice : PySem.W.typeIn K (.ref C_Twice) = some (.type "type"))
    (ic_Twice : PySem.W.isClsIn K C_Twice = true)
    (ac_NotThere : PySem.W.nsIn K mainGlobals "NotThere" = some (some (.ref C_NotThere)))
    (tc_NotThere : PySem.W.typeIn K (.ref C_NotThere) = some (.type "type"))
    (ic_NotThere : PySem.W.isClsIn K C_NotThere = true)
    (ac_NoView : PySem.W.nsIn K mainGlobals "NoView" = some (some (.ref C_NoView)))
    (tc_NoView : PySem.W.typeIn K (.ref C_NoView) = some (.type "type"))
    (ic_NoView : PySem.W.isClsIn K C_NoView = true)
    (ac_InUse : PySem.W.nsIn K mainGlobals "InUse" = some (some (.ref C_InUse)))
    (tc_InUse : PySem.W.typeIn K (.ref C_InUse) = some (.type "type"))
    (ic_InUse : PySem.W.isClsIn K C_InUse = true)
    (ac_NoTable : PySem.W.nsIn K mainGlobals "NoTable" = some (some (.ref C_NoTable)))
    (tc_NoTable : PySem.W.typeIn K (.ref C_NoTable) = some (.type "type"))
    (ic_NoTable : PySem.W.isClsIn K C_NoTable = true)
    (ac_NoUser : PySem.W.nsIn K mainGlobals "NoUser" = some (some (.ref C_NoUser)))
    (tc_NoUser : PySem.W.typeIn K (.ref C_NoUser) = some (.type "type"))
    (ic_NoUser : PySem.W.isClsIn K C_NoUser = true)
    (ac_NoneOpen : PySem.W.nsIn K mainGlobals "NoneOpen" = some (some (.ref C_NoneOpen)))
    (tc_NoneOpen : PySem.W.typeIn K (.ref C_NoneOpen) = some (.type "type"))
    (ic_NoneOpen : PySem.W.isClsIn K C_NoneOpen = true)
    (ac_TooDeep : PySem.W.nsIn K mainGlobals "TooDeep" = some (some (.ref C_TooDeep)))
    (tc_TooDeep : PySem.W.typeIn K (.ref C_TooDeep) = some (.type "type"))
    (ic_TooDeep : PySem.W.isClsIn K C_TooDeep = true)
    (ac_NoDeeds : PySem.W.nsIn K mainGlobals "NoDeeds" = some (some (.ref C_NoDeeds)))
    (tc_NoDeeds : PySem.W.typeIn K (.ref C_NoDeeds) = some (.type "type"))
    (ic_NoDeeds : PySem.W.isClsIn K C_NoDeeds = true)
    (ac_NoText : PySem.W.nsIn K mainGlobals "NoText" = some (some (.ref C_NoText)))
    (tc_NoText : PySem.W.typeIn K (.ref C_NoText) = some (.type "type"))
    (ic_NoText : PySem.W.isClsIn K C_NoText = true)
    (ac_NoLine : PySem.W.nsIn K mainGlobals "NoLine" = some (some (.ref C_NoLine)))
    (tc_NoLine : PySem.W.typeIn K (.ref C_NoLine) = some (.type "type"))
    (ic_NoLine : PySem.W.isClsIn K C_NoLine = true)
    (ac_VeilError : PySem.W.nsIn K mainGlobals "VeilError" = some (some (.ref C_VeilError)))
    (tc_VeilError : PySem.W.typeIn K (.ref C_VeilError) = some (.type "type"))
    (ic_VeilError : PySem.W.isClsIn K C_VeilError = true)
    (bv_VeilError : PySem.W.subIn K (.ref C_VeilError) (.type "BaseException") = some true)
    (xc_TooMany : PySem.W.excIn K C_TooMany [.type "ValueError", .type "Exception", .type "BaseException", .type "object"] "ValueError.__new__" = true)
    (kc_TooMany : PySem.W.keepIn K (.ref C_TooMany) = true)
    (bc_TooMany : PySem.W.subIn K (.ref C_TooMany) (.type "BaseException") = some true)
    (sc_TooMany : PySem.W.subIn K (.ref C_TooMany) (.ref C_TooMany) = some true)
    (hg_TooMany : PySem.W.findIn K (.ref C_TooMany) "__getattribute__" = some (some (.builtin "BaseException.__getattribute__")))
    (hk_TooMany : PySem.W.findIn K (.ref C_TooMany) "__getattr__" = some none)
    (hd_TooMany : PySem.W.hasDictIn K C_TooMany = true)
    (ha_TooMany : PySem.W.findIn K (.ref C_TooMany) "__class__" = some (some (.builtin "object.__class__")))
    (hm_TooMany : PySem.W.mroIn K C_TooMany (.type "object") = some true)
    (sub_TooMany_TooMany : PySem.W.subIn K (.ref C_TooMany) (.ref C_TooMany) = some true)
    (sub_TooMany_NoAsk : PySem.W.subIn K (.ref C_TooMany) (.ref C_NoAsk) = some false)
    (sub_TooMany_NoRight : PySem.W.subIn K (.ref C_TooMany) (.ref C_NoRight) = some false)
    (sub_TooMany_NoRow : PySem.W.subIn K (.ref C_TooMany) (.ref C_NoRow) = some false)
    (sub_TooMany_NotLet : PySem.W.subIn K (.ref C_TooMany) (.ref C_NotLet) = some false)
    (sub_TooMany_Taken : PySem.W.subIn K (.ref C_TooMany) (.ref C_Taken) = some false)
    (sub_TooMany_Full : PySem.W.subIn K (.ref C_TooMany) (.ref C_Full) = some false)
    (sub_TooMany_NoCondition : PySem.W.subIn K (.ref C_TooMany) (.ref C_NoCondition) = some false)
    (sub_TooMany_NoGround : PySem.W.subIn K (.ref C_TooMany) (.ref C_NoGround) = some false)
    (sub_TooMany_NoRule : PySem.W.subIn K (.ref C_TooMany) (.ref C_NoRule) = some false)
    (sub_TooMany_Twice : PySem.W.subIn K (.ref C_TooMany) (.ref C_Twice) = some false)
    (sub_TooMany_NotThere : PySem.W.subIn K (.ref C_TooMany) (.ref C_NotThere) = some false)
    (sub_TooMany_NoView : PySem.W.subIn K (.ref C_TooMany) (.ref C_NoView) = some false)
    (sub_TooMany_InUse : PySem.W.subIn K (.ref C_TooMany) (.ref C_InUse) = some false)
    (sub_TooMany_NoTable : PySem.W.subIn K (.ref C_TooMany) (.ref C_NoTable) = some false)
    (sub_TooMany_NoUser : PySem.W.subIn K (.ref C_TooMany) (.ref C_NoUser) = some false)
    (sub_TooMany_NoneOpen : PySem.W.subIn K (.ref C_TooMany) (.ref C_NoneOpen) = some false)
    (sub_TooMany_TooDeep : PySem.W.subIn K (.ref C_TooMany) (.ref C_TooDeep) = some false)
    (sub_TooMany_NoDeeds : PySem.W.subIn K (.ref C_TooMany) (.ref C_NoDeeds) = some false)
    (sub_TooMany_NoText : PySem.W.subIn K (.ref C_TooMany) (.ref C_NoText) = some false)
    (sub_TooMany_NoLine : PySem.W.subIn K (.ref C_TooMany) (.ref C_NoLine) = some false)
    (sub_TooMany_VeilError : PySem.W.subIn K (.ref C_TooMany) (.ref C_VeilError) = some true)
    (sub_TooMany_ValueError : PySem.W.subIn K (.ref C_TooMany) (.type "ValueError") = some true)
    (oh_n : PySem.W.specialIn K (.builtin "object.__class__") "__get__" = some (some (.builtin "getset_descriptor.__get__")))
    (oh_t : PySem.W.takesIn K (.builtin "object.__class__") = some true) :
    ∃ fd : FuncData, (∀ (s : Shared) (v : Value), BindsTo s fd ⟨[v], []⟩ [("script", v)]) ∧ ∀ base : Heap, K.In base → base.Ns mainGlobals mg → FnOk l.prog w K mg base CX0 6 fa fd ["script"] (spLaw K) := by
  have e : fa = f_law := Value.ref.inj (Option.some.inj (hfa.symm.trans (PySem.W.mg_of X G a_law)))
  rw [e]
  have F_column_values := fun_mk (st := s_column_values) l_column_values c_column_values k_column_values
  have b_column_values := F_column_values.binds (ps := ["column"]) fun _ _ _ _ _ _ us hl => match us, hl with | [_], _ => rfl
  have F_key_of := fun_mk (st := s_key_of) l_key_of c_key_of k_key_of
  have b_key_of := F_key_of.binds (ps := ["table", "row"]) fun _ _ _ _ _ _ us hl => match us, hl with | [_, _], _ => rfl
  have F_possible_rows := fun_mk (st := s_possible_rows) l_possible_rows c_possible_rows k_possible_rows
  have b_possible_rows := F_possible_rows.binds (ps := ["table"]) fun _ _ _ _ _ _ us hl => match us, hl with | [_], _ => rfl
  have F_count_rows := fun_mk (st := s_count_rows) l_count_rows c_count_rows k_count_rows
  have b_count_rows := F_count_rows.binds (ps := ["columns"]) fun _ _ _ _ _ _ us hl => match us, hl with | [_], _ => rfl
  have F_all_contents := fun_mk (st := s_all_contents) l_all_contents c_all_contents k_all_contents
  have b_all_contents := F_all_contents.binds (ps := ["table"]) fun _ _ _ _ _ _ us hl => match us, hl with | [_], _ => rfl
  have F_may_follow := fun_mk (st := s_may_follow) l_may_follow c_may_follow k_may_follow
  have b_may_follow := F_may_follow.binds (ps := ["table", "rows", "row"]) fun _ _ _ _ _ _ us hl => match us, hl with | [_, _, _], _ => rfl
  have F_check_few_rows := fun_mk (st := s_check_few_rows) l_check_few_rows c_check_few_rows k_check_few_rows
  have b_check_few_rows := F_check_few_rows.binds (ps := ["ground", "most"]) fun _ _ _ _ _ _ us hl => match us, hl with | [_, _], _ => rfl
  have F_all_worlds := fun_mk (st := s_all_worlds) l_all_worlds c_all_worlds k_all_worlds
  have D_all_worlds : FunD K "all_worlds" "all_worlds" (defArgs s_all_worlds) (defBody s_all_worlds) (defScope s_all_worlds) [] [("most", V.int 8)] f_all_worlds _ := ⟨⟨_, _, _, _, _, _, _, _, _, _, rfl, l_all_worlds, c_all_worlds, .inl ⟨rfl, rfl⟩, .inr ⟨kw_all_worlds, rfl, fun q hq => by
    simp only [List.mem_cons, List.not_mem_nil, or_false] at hq
    subst hq
    exact ⟨_, kd_all_worlds_0, _, rfl⟩⟩⟩, k_all_worlds⟩
  obtain ⟨ds_all_worlds, vd_all_worlds, bd_all_worlds⟩ := D_all_worlds.binds0 (ps := ["ground", "most"]) 1 (by simp) rfl fun D doc pm an cdv ct us ks l1 l2 => match us, ks, l1, l2 with | [_], [_], _, _ => ⟨_, _, _, _, _, _, rfl, rfl, rfl⟩
  obtain ⟨mv_all_worlds, bk_all_worlds⟩ := D_all_worlds.kbinds0 (ps := ["ground", "most"]) 1 ["most"] [] (fun us mv ws => us ++ ws) (by simp) (fun q h => by cases h) (fun h1 _ h3 => h1.append h3) fun D doc pm an cdv ct us mv ws l1 l2 l3 => match us, mv, ws, l1, l2, l3 with | [_], [], [_], _, _, _ => rfl
  have F_count_contents := fun_mk (st := s_count_contents) l_count_contents c_count_contents k_count_contents
  have b_count_contents := F_count_contents.binds (ps := ["table"]) fun _ _ _ _ _ _ us hl => match us, hl with | [_], _ => rfl
  have F_count_worlds := fun_mk (st := s_count_worlds) l_count_worlds c_count_worlds k_count_worlds
  have b_count_worlds := F_count_worlds.binds (ps := ["ground"]) fun _ _ _ _ _ _ us hl => match us, hl with | [_], _ => rfl
  have F_law_cell_at := fun_mk (st := s_law_cell_at) l_law_cell_at c_law_cell_at k_law_cell_at
  have b_law_cell_at := F_law_cell_at.binds (ps := ["script", "k"]) fun _ _ _ _ _ _ us hl => match us, hl with | [_, _], _ => rfl
  have F_law_draws := fun_mk (st := s_law_draws) l_law_draws c_law_draws k_law_draws
  have b_law_draws := F_law_draws.binds (ps := ["cell", "many", "base"]) fun _ _ _ _ _ _ us hl => match us, hl with | [_, _, _], _ => rfl
  have F_law_name := fun_mk (st := s_law_name) l_law_name c_law_name k_law_name
  have b_law_name := F_law_name.binds (ps := ["some", "taken"]) fun _ _ _ _ _ _ us hl => match us, hl with | [_, _], _ => rfl
  have F_law_columns := fun_mk (st := s_law_columns) l_law_columns c_law_columns k_law_columns
  have b_law_columns := F_law_columns.binds (ps := ["picks", "many", "top"]) fun _ _ _ _ _ _ us hl => match us, hl with | [_, _, _], _ => rfl
  have F_law_ground := fun_mk (st := s_law_ground) l_law_ground c_law_ground k_law_ground
  have b_law_ground := F_law_ground.binds (ps := ["picks", "top"]) fun _ _ _ _ _ _ us hl => match us, hl with | [_, _], _ => rfl
  have F_law_possible := fun_mk (st := s_law_possible) l_law_possible c_law_possible k_law_possible
  have b_law_possible := F_law_possible.binds (ps := ["table"]) fun _ _ _ _ _ _ us hl => match us, hl with | [_], _ => rfl
  have F_law_worlds := fun_mk (st := s_law_worlds) l_law_worlds c_law_worlds k_law_worlds
  have b_law_worlds := F_law_worlds.binds (ps := ["ground"]) fun _ _ _ _ _ _ us hl => match us, hl with | [_], _ => rfl
  have F_law_kin := fun_mk (st := s_law_kin) l_law_kin c_law_kin k_law_kin
  have b_law_kin := F_law_kin.binds (ps := ["e"]) fun _ _ _ _ _ _ us hl => match us, hl with | [_], _ => rfl
  have F_law_all := fun_mk (st := s_law_all) l_law_all c_law_all k_law_all
  have b_law_all := F_law_all.binds (ps := ["ground", "limit"]) fun _ _ _ _ _ _ us hl => match us, hl with | [_, _], _ => rfl
  have F_law := fun_mk (st := s_law) l_law c_law k_law
  have b_law := F_law.binds (ps := ["script"]) fun _ _ _ _ _ _ us hl => match us, hl with | [_], _ => rfl
  let T : Txt K mg w := {
    n_list := PySem.W.mg_none_of X G z_list
    n_range := PySem.W.mg_none_of X G z_range
    n_len := PySem.W.mg_none_of X G z_len
    n_sorted := PySem.W.mg_none_of X G z_sorted
    n_sum := PySem.W.mg_none_of X G z_sum
    n_int := PySem.W.mg_none_of X G z_int
    n_tuple := PySem.W.mg_none_of X G z_tuple
    n_min := PySem.W.mg_none_of X G z_min
    n_any := PySem.W.mg_none_of X G z_any
    n_max := PySem.W.mg_none_of X G z_max
    n_isinstance := PySem.W.mg_none_of X G z_isinstance
    n_ValueError := PySem.W.mg_none_of X G z_ValueError
    u_EMPTY := .int (-1) t_EMPTY
    v_EMPTY := .int (-1)
    mg_EMPTY := PySem.W.mg_of X G a_EMPTY
    rl_EMPTY := ⟨_, rfl⟩
    dp_EMPTY := fun _ => .int _
    u_MOST_IN_TABLE := .int 12 t_MOST_IN_TABLE
    v_MOST_IN_TABLE := .int 12
    mg_MOST_IN_TABLE := PySem.W.mg_of X G a_MOST_IN_TABLE
    rl_MOST_IN_TABLE := ⟨_, rfl⟩
    dp_MOST_IN_TABLE := fun _ => .int _
    u_MOST_ROWS := .int 8 t_MOST_ROWS
    v_MOST_ROWS := .int 8
    mg_MOST_ROWS := PySem.W.mg_of X G a_MOST_ROWS
    rl_MOST_ROWS := ⟨_, rfl⟩
    dp_MOST_ROWS := fun _ => .int _
    f_column_values := f_column_values
    fd_column_values := _
    F_column_values := F_column_values
    b_column_values := b_column_values
    g_column_values := PySem.W.mg_of X G a_column_values
    k_column_values := k_column_values
    f_key_of := f_key_of
    fd_key_of := _
    F_key_of := F_key_of
    b_key_of := b_key_of
    g_key_of := PySem.W.mg_of X G a_key_of
    k_key_of := k_key_of
    f_possible_rows := f_possible_rows
    fd_possible_rows := _
    F_possible_rows := F_possible_rows
    b_possible_rows := b_possible_rows
    g_possible_rows := PySem.W.mg_of X G a_possible_rows
    k_possible_rows := k_possible_rows
    f_count_rows := f_count_rows
    fd_count_rows := _
    F_count_rows := F_count_rows
    b_count_rows := b_count_rows
    g_count_rows := PySem.W.mg_of X G a_count_rows
    k_count_rows := k_count_rows
    f_all_contents := f_all_contents
    fd_all_contents := _
    F_all_contents := F_all_contents
    b_all_contents := b_all_contents
    g_all_contents := PySem.W.mg_of X G a_all_contents
    k_all_contents := k_all_contents
    f_may_follow := f_may_follow
    fd_may_follow := _
    F_may_follow := F_may_follow
    b_may_follow := b_may_follow
    g_may_follow := PySem.W.mg_of X G a_may_follow
    k_may_follow := k_may_follow
    f_check_few_rows := f_check_few_rows
    fd_check_few_rows := _
    F_check_few_rows := F_check_few_rows
    b_check_few_rows := b_check_few_rows
    g_check_few_rows := PySem.W.mg_of X G a_check_few_rows
    k_check_few_rows := k_check_few_rows
    f_all_worlds := f_all_worlds
    fd_all_worlds := _
    F_all_worlds := F_all_worlds
    ds_all_worlds := ds_all_worlds
    vd_all_worlds := vd_all_worlds
    bd_all_worlds := bd_all_worlds
    bk_all_worlds := bk_all_worlds
    g_all_worlds := PySem.W.mg_of X G a_all_worlds
    k_all_worlds := k_all_worlds
    f_count_contents := f_count_contents
    fd_count_contents := _
    F_count_contents := F_count_contents
    b_count_contents := b_count_contents
    g_count_contents := PySem.W.mg_of X G a_count_contents
    k_count_contents := k_count_contents
    f_count_worlds := f_count_worlds
    fd_count_worlds := _
    F_count_worlds := F_count_worlds
    b_count_worlds := b_count_worlds
    g_count_worlds := PySem.W.mg_of X G a_count_worlds
    k_count_worlds := k_count_worlds
    f_law_cell_at := f_law_cell_at
    fd_law_cell_at := _
    F_law_cell_at := F_law_cell_at
    b_law_cell_at := b_law_cell_at
    g_law_cell_at := PySem.W.mg_of X G a_law_cell_at
    k_law_cell_at := k_law_cell_at
    f_law_draws := f_law_draws
    fd_law_draws := _
    F_law_draws := F_law_draws
    b_law_draws := b_law_draws
    g_law_draws := PySem.W.mg_of X G a_law_draws
    k_law_draws := k_law_draws
    f_law_name := f_law_name
    fd_law_name := _
    F_law_name := F_law_name
    b_law_name := b_law_name
    g_law_name := PySem.W.mg_of X G a_law_name
    k_law_name := k_law_name
    f_law_columns := f_law_columns
    fd_law_columns := _
    F_law_columns := F_law_columns
    b_law_columns := b_law_columns
    g_law_columns := PySem.W.mg_of X G a_law_columns
    k_law_columns := k_law_columns
    f_law_ground := f_law_ground
    fd_law_ground := _
    F_law_ground := F_law_ground
    b_law_ground := b_law_ground
    g_law_ground := PySem.W.mg_of X G a_law_ground
    k_law_ground := k_law_ground
    f_law_possible := f_law_possible
    fd_law_possible := _
    F_law_possible := F_law_possible
    b_law_possible := b_law_possible
    g_law_possible := PySem.W.mg_of X G a_law_possible
    k_law_possible := k_law_possible
    f_law_worlds := f_law_worlds
    fd_law_worlds := _
    F_law_worlds := F_law_worlds
    b_law_worlds := b_law_worlds
    g_law_worlds := PySem.W.mg_of X G a_law_worlds
    k_law_worlds := k_law_worlds
    f_law_kin := f_law_kin
    fd_law_kin := _
    F_law_kin := F_law_kin
    b_law_kin := b_law_kin
    g_law_kin := PySem.W.mg_of X G a_law_kin
    k_law_kin := k_law_kin
    f_law_all := f_law_all
    fd_law_all := _
    F_law_all := F_law_all
    b_law_all := b_law_all
    g_law_all := PySem.W.mg_of X G a_law_all
    k_law_all := k_law_all
    f_law := f_law
    fd_law := _
    F_law := F_law
    b_law := b_law
    g_law := PySem.W.mg_of X G a_law
    k_law := k_law
    C_TooMany := C_TooMany
    mgc_TooMany := PySem.W.mg_of X G ac_TooMany
    ec_TooMany := ⟨tc_TooMany, ic_TooMany⟩
    C_NoAsk := C_NoAsk
    mgc_NoAsk := PySem.W.mg_of X G ac_NoAsk
    ec_NoAsk := ⟨tc_NoAsk, ic_NoAsk⟩
    C_NoRight := C_NoRight
    mgc_NoRight := PySem.W.mg_of X G ac_NoRight
    ec_NoRight := ⟨tc_NoRight, ic_NoRight⟩
    C_NoRow := C_NoRow
    mgc_NoRow := PySem.W.mg_of X G ac_NoRow
    ec_NoRow := ⟨tc_NoRow, ic_NoRow⟩
    C_NotLet := C_NotLet
    mgc_NotLet := PySem.W.mg_of X G ac_NotLet
    ec_NotLet := ⟨tc_NotLet, ic_NotLet⟩
    C_Taken := C_Taken
    mgc_Taken := PySem.W.mg_of X G ac_Taken
    ec_Taken := ⟨tc_Taken, ic_Taken⟩
    C_Full := C_Full
    mgc_Full := PySem.W.mg_of X G ac_Full
    ec_Full := ⟨tc_Full, ic_Full⟩
    C_NoCondition := C_NoCondition
    mgc_NoCondition := PySem.W.mg_of X G ac_NoCondition
    ec_NoCondition := ⟨tc_NoCondition, ic_NoCondition⟩
    C_NoGround := C_NoGround
    mgc_NoGround := PySem.W.mg_of X G ac_NoGround
    ec_NoGround := ⟨tc_NoGround, ic_NoGround⟩
    C_NoRule := C_NoRule
    mgc_NoRule := PySem.W.mg_of X G ac_NoRule
    ec_NoRule := ⟨tc_NoRule, ic_NoRule⟩
    C_Twice := C_Twice
    mgc_Twice := PySem.W.mg_of X G ac_Twice
    ec_Twice := ⟨tc_Twice, ic_Twice⟩
    C_NotThere := C_NotThere
    mgc_NotThere := PySem.W.mg_of X G ac_NotThere
    ec_NotThere := ⟨tc_NotThere, ic_NotThere⟩
    C_NoView := C_NoView
    mgc_NoView := PySem.W.mg_of X G ac_NoView
    ec_NoView := ⟨tc_NoView, ic_NoView⟩
    C_InUse := C_InUse
    mgc_InUse := PySem.W.mg_of X G ac_InUse
    ec_InUse := ⟨tc_InUse, ic_InUse⟩
    C_NoTable := C_NoTable
    mgc_NoTable := PySem.W.mg_of X G ac_NoTable
    ec_NoTable := ⟨tc_NoTable, ic_NoTable⟩
    C_NoUser := C_NoUser
    mgc_NoUser := PySem.W.mg_of X G ac_NoUser
    ec_NoUser := ⟨tc_NoUser, ic_NoUser⟩
    C_NoneOpen := C_NoneOpen
    mgc_NoneOpen := PySem.W.mg_of X G ac_NoneOpen
    ec_NoneOpen := ⟨tc_NoneOpen, ic_NoneOpen⟩
    C_TooDeep := C_TooDeep
    mgc_TooDeep := PySem.W.mg_of X G ac_TooDeep
    ec_TooDeep := ⟨tc_TooDeep, ic_TooDeep⟩
    C_NoDeeds := C_NoDeeds
    mgc_NoDeeds := PySem.W.mg_of X G ac_NoDeeds
    ec_NoDeeds := ⟨tc_NoDeeds, ic_NoDeeds⟩
    C_NoText := C_NoText
    mgc_NoText := PySem.W.mg_of X G ac_NoText
    ec_NoText := ⟨tc_NoText, ic_NoText⟩
    C_NoLine := C_NoLine
    mgc_NoLine := PySem.W.mg_of X G ac_NoLine
    ec_NoLine := ⟨tc_NoLine, ic_NoLine⟩
    C_VeilError := C_VeilError
    mgc_VeilError := PySem.W.mg_of X G ac_VeilError
    ec_VeilError := ⟨tc_VeilError, ic_VeilError⟩
    bv_VeilError := bv_VeilError
    er_TooMany := ⟨xc_TooMany, kc_TooMany, bc_TooMany, sc_TooMany, ⟨hg_TooMany, hk_TooMany, bc_TooMany, hd_TooMany, ha_TooMany, oh_n, oh_t, hm_TooMany⟩⟩
    sub_TooMany_TooMany := sub_TooMany_TooMany
    sub_TooMany_NoAsk := sub_TooMany_NoAsk
    sub_TooMany_NoRight := sub_TooMany_NoRight
    sub_TooMany_NoRow := sub_TooMany_NoRow
    sub_TooMany_NotLet := sub_TooMany_NotLet
    sub_TooMany_Taken := sub_TooMany_Taken
    sub_TooMany_Full := sub_TooMany_Full
    sub_TooMany_NoCondition := sub_TooMany_NoCondition
    sub_TooMany_NoGround := sub_TooMany_NoGround
    sub_TooMany_NoRule := sub_TooMany_NoRule
    sub_TooMany_Twice := sub_TooMany_Twice
    sub_TooMany_NotThere := sub_TooMany_NotThere
    sub_TooMany_NoView := sub_TooMany_NoView
    sub_TooMany_InUse := sub_TooMany_InUse
    sub_TooMany_NoTable := sub_TooMany_NoTable
    sub_TooMany_NoUser := sub_TooMany_NoUser
    sub_TooMany_NoneOpen := sub_TooMany_NoneOpen
    sub_TooMany_TooDeep := sub_TooMany_TooDeep
    sub_TooMany_NoDeeds := sub_TooMany_NoDeeds
    sub_TooMany_NoText := sub_TooMany_NoText
    sub_TooMany_NoLine := sub_TooMany_NoLine
    sub_TooMany_VeilError := sub_TooMany_VeilError
    sub_TooMany_ValueError := sub_TooMany_ValueError }
  refine ⟨PySem.W.fnOf "law" "law" (defArgs s_law) (defBody s_law) (defScope s_law) .none kV_law dc_law pm_law an_law cd_law ct_law, fun s v => .of_eq rfl, fun base _ _ => ?_⟩
  have G_column_values := ok_column_values (P := l.prog) (w := w) (base := base) T 
  have G_key_of := ok_key_of (P := l.prog) (w := w) (base := base) T 
  have G_law_cell_at := ok_law_cell_at (P := l.prog) (w := w) (base := base) T 
  have G_law_draws := ok_law_draws (P := l.prog) (w := w) (base := base) T 
  have G_law_name := ok_law_name (P := l.prog) (w := w) (base := base) T 
  have G_law_possible := ok_law_possible (P := l.prog) (w := w) (base := base) T 
  have G_possible_rows := ok_possible_rows (P := l.prog) (w := w) (base := base) T G_column_values
  have G_count_rows := ok_count_rows (P := l.prog) (w := w) (base := base) T G_column_values
  have G_may_follow := ok_may_follow (P := l.prog) (w := w) (base := base) T G_key_of
  have G_law_columns := ok_law_columns (P := l.prog) (w := w) (base := base) T G_law_name
  have G_law_worlds := ok_law_worlds (P := l.prog) (w := w) (base := base) T G_law_possible
  have G_all_contents := ok_all_contents (P := l.prog) (w := w) (base := base) T G_possible_rows G_may_follow
  have G_check_few_rows := ok_check_few_rows (P := l.prog) (w := w) (base := base) T G_count_rows
  have G_count_contents := ok_count_contents (P := l.prog) (w := w) (base := base) T G_count_rows
  have G_law_ground := ok_law_ground (P := l.prog) (w := w) (base := base) T G_law_name G_law_columns
  have G_all_worlds := ok_all_worlds (P := l.prog) (w := w) (base := base) T G_check_few_rows G_all_contents
  have G_count_worlds := ok_count_worlds (P := l.prog) (w := w) (base := base) T G_count_contents
  have G_law_all := ok_law_all (P := l.prog) (w := w) (base := base) T G_all_worlds
  have G_law := ok_law (P := l.prog) (w := w) (base := base) T G_law_cell_at G_law_possible G_law_all G_law_ground G_count_worlds G_law_worlds G_law_draws
  exact law_end G_law law_true
end Rv
open PyProof.Rows PySem PySem.W
set_option maxHeartbeats 0 in
theorem PySem.Challenge.cw_rowveil_k03_all_worlds_by_hand_holds : PySem.Challenge.rw_rowveil_k03_all_worlds_by_hand.Holds := by
  w_on; o_law; k_head
  (case hw => w_witness2)
  k_fill
  refine L2.walk_of (l := PySem.Challenge.rw_rowveil_k03_all_worlds_by_hand) (n := 63) (k := 6) (x := "script") (CX := fun _ => L2.CX0) (sp := fun w => Rv.spLaw _) rfl (by decide) rfl ⟨rfl, by decide, by decide⟩ (fun w h Y => PySem.W.kIn_of Y) ?F (fun _ _ a ns hl _ hS => ⟨a, ns, rfl, hS, hl, fun _ => rfl⟩) (fun _ _ _ _ _ h => h)
  case F =>
    intro w mg fa h KX G hmg
    refine' Rv.all_mk KX G hmg ?a_EMPTY ?a_MOST_IN_TABLE ?a_MOST_ROWS ?z_list ?z_range ?z_len ?z_sorted ?z_sum ?z_int ?z_tuple ?z_min ?z_any ?z_max ?z_isinstance ?z_ValueError ?a_column_values ?l_column_values ?c_column_values ?k_column_values ?a_key_of ?l_key_of ?c_key_of ?k_key_of ?a_possible_rows ?l_possible_rows ?c_possible_rows ?k_possible_rows ?a_count_rows ?l_count_rows ?c_count_rows ?k_count_rows ?a_all_contents ?l_all_contents ?c_all_contents ?k_all_contents ?a_may_follow ?l_may_follow ?c_may_follow ?k_may_follow ?a_check_few_rows ?l_check_few_rows ?c_check_few_rows ?k_check_few_rows ?a_all_worlds ?l_all_worlds ?c_all_worlds ?k_all_worlds ?a_count_contents ?l_count_contents ?c_count_contents ?k_count_contents ?a_count_worlds ?l_count_worlds ?c_count_worlds ?k_count_worlds ?a_law_cell_at ?l_law_cell_at ?c_law_cell_at ?k_law_cell_at ?a_law_draws ?l_law_draws ?c_law_draws ?k_law_draws ?a_law_name ?l_law_name ?c_law_name ?k_law_name ?a_law_columns ?l_law_columns ?c_law_columns ?k_law_columns ?a_law_ground ?l_law_ground ?c_law_ground ?k_law_ground ?a_law_possible ?l_law_possible ?c_law_possible ?k_law_possible ?a_law_worlds ?l_law_worlds ?c_law_worlds ?k_law_worlds ?a_law_kin ?l_law_kin ?c_law_kin ?k_law_kin ?a_law_all ?l_law_all ?c_law_all ?k_law_all ?a_law ?l_law ?c_law ?k_law ?kd_all_worlds_0 ?ac_TooMany ?tc_TooMany ?ic_TooMany ?ac_NoAsk ?tc_NoAsk ?ic_NoAsk ?ac_NoRight ?tc_NoRight ?ic_NoRight ?ac_NoRow ?tc_NoRow ?ic_NoRow ?ac_NotLet ?tc_NotLet ?ic_NotLet ?ac_Taken ?tc_Taken ?ic_Taken ?ac_Full ?tc_Full ?ic_Full ?ac_NoCondition ?tc_NoCondition ?ic_NoCondition ?ac_NoGround ?tc_NoGround ?ic_NoGround ?ac_NoRule ?tc_NoRule ?ic_NoRule ?ac_Twice ?tc_Twice ?ic_Twice ?ac_NotThere ?tc_NotThere ?ic_NotThere ?ac_NoView ?tc_NoView ?ic_NoView ?ac_InUse ?tc_InUse ?ic_InUse ?ac_NoTable ?tc_NoTable ?ic_NoTable ?ac_NoUser ?tc_NoUser ?ic_NoUser ?ac_NoneOpen ?tc_NoneOpen ?ic_NoneOpen ?ac_TooDeep ?tc_TooDeep ?ic_TooDeep ?ac_NoDeeds ?tc_NoDeeds ?ic_NoDeeds ?ac_NoText ?tc_NoText ?ic_NoText ?ac_NoLine ?tc_NoLine ?ic_NoLine ?ac_VeilError ?tc_VeilError ?ic_VeilError ?bv_VeilError ?xc_TooMany ?kc_TooMany ?bc_TooMany ?sc_TooMany ?hg_TooMany ?hk_TooMany ?hd_TooMany ?ha_TooMany ?hm_TooMany ?sub_TooMany_TooMany ?sub_TooMany_NoAsk ?sub_TooMany_NoRight ?sub_TooMany_NoRow ?sub_TooMany_NotLet ?sub_TooMany_Taken ?sub_TooMany_Full ?sub_TooMany_NoCondition ?sub_TooMany_NoGround ?sub_TooMany_NoRule ?sub_TooMany_Twice ?sub_TooMany_NotThere ?sub_TooMany_NoView ?sub_TooMany_InUse ?sub_TooMany_NoTable ?sub_TooMany_NoUser ?sub_TooMany_NoneOpen ?sub_TooMany_TooDeep ?sub_TooMany_NoDeeds ?sub_TooMany_NoText ?sub_TooMany_NoLine ?sub_TooMany_VeilError ?sub_TooMany_ValueError ?oh_n ?oh_t
    (case a_EMPTY => k_is); (case a_MOST_IN_TABLE => k_is); (case a_MOST_ROWS => k_is); (case z_list => k_is); (case z_range => k_is); (case z_len => k_is); (case z_sorted => k_is); (case z_sum => k_is); (case z_int => k_is); (case z_tuple => k_is); (case z_min => k_is); (case z_any => k_is); (case z_max => k_is); (case z_isinstance => k_is); (case z_ValueError => k_is); (case a_column_values => k_is); (case l_column_values => k_is); (case c_column_values => k_is); (case k_column_values => k_is); (case a_key_of => k_is); (case l_key_of => k_is); (case c_key_of => k_is); (case k_key_of => k_is); (case a_possible_rows => k_is); (case l_possible_rows => k_is); (case c_possible_rows => k_is); (case k_possible_rows => k_is); (case a_count_rows => k_is); (case l_count_rows => k_is); (case c_count_rows => k_is); (case k_count_rows => k_is); (case a_all_contents => k_is); (case l_all_contents => k_is); (case c_all_contents => k_is); (case k_all_contents => k_is); (case a_may_follow => k_is); (case l_may_follow => k_is); (case c_may_follow => k_is); (case k_may_follow => k_is); (case a_check_few_rows => k_is); (case l_check_few_rows => k_is); (case c_check_few_rows => k_is); (case k_check_few_rows => k_is); (case a_all_worlds => k_is); (case l_all_worlds => k_is); (case c_all_worlds => k_is); (case k_all_worlds => k_is); (case a_count_contents => k_is); (case l_count_contents => k_is); (case c_count_contents => k_is); (case k_count_contents => k_is); (case a_count_worlds => k_is); (case l_count_worlds => k_is); (case c_count_worlds => k_is); (case k_count_worlds => k_is); (case a_law_cell_at => k_is); (case l_law_cell_at => k_is); (case c_law_cell_at => k_is); (case k_law_cell_at => k_is); (case a_law_draws => k_is); (case l_law_draws => k_is); (case c_law_draws => k_is); (case k_law_draws => k_is); (case a_law_name => k_is); (case l_law_name => k_is); (case c_law_name => k_is); (case k_law_name => k_is); (case a_law_columns => k_is); (case l_law_columns => k_is); (case c_law_columns => k_is); (case k_law_columns => k_is); (case a_law_ground => k_is); (case l_law_ground => k_is); (case c_law_ground => k_is); (case k_law_ground => k_is); (case a_law_possible => k_is); (case l_law_possible => k_is); (case c_law_possible => k_is); (case k_law_possible => k_is); (case a_law_worlds => k_is); (case l_law_worlds => k_is); (case c_law_worlds => k_is); (case k_law_worlds => k_is); (case a_law_kin => k_is); (case l_law_kin => k_is); (case c_law_kin => k_is); (case k_law_kin => k_is); (case a_law_all => k_is); (case l_law_all => k_is); (case c_law_all => k_is); (case k_law_all => k_is); (case a_law => k_is); (case l_law => k_is); (case c_law => k_is); (case k_law => k_is); (case kd_all_worlds_0 => k_is); (case ac_TooMany => k_is); (case tc_TooMany => k_is); (case ic_TooMany => k_is); (case ac_NoAsk => k_is); (case tc_NoAsk => k_is); (case ic_NoAsk => k_is); (case ac_NoRight => k_is); (case tc_NoRight => k_is); (case ic_NoRight => k_is); (case ac_NoRow => k_is); (case tc_NoRow => k_is); (case ic_NoRow => k_is); (case ac_NotLet => k_is); (case tc_NotLet => k_is); (case ic_NotLet => k_is); (case ac_Taken => k_is); (case tc_Taken => k_is); (case ic_Taken => k_is); (case ac_Full => k_is); (case tc_Full => k_is); (case ic_Full => k_is); (case ac_NoCondition => k_is); (case tc_NoCondition => k_is); (case ic_NoCondition => k_is); (case ac_NoGround => k_is); (case tc_NoGround => k_is); (case ic_NoGround => k_is); (case ac_NoRule => k_is); (case tc_NoRule => k_is); (case ic_NoRule => k_is); (case ac_Twice => k_is); (case tc_Twice => k_is); (case ic_Twice => k_is); (case ac_NotThere => k_is); (case tc_NotThere => k_is); (case ic_NotThere => k_is); (case ac_NoView => k_is); (case tc_NoView => k_is); (case ic_NoView => k_is); (case ac_InUse => k_is); (case tc_InUse => k_is); (case ic_InUse => k_is); (case ac_NoTable => k_is); (case tc_NoTable => k_is); (case ic_NoTable => k_is); (case ac_NoUser => k_is); (case tc_NoUser => k_is); (case ic_NoUser => k_is); (case ac_NoneOpen => k_is); (case tc_NoneOpen => k_is); (case ic_NoneOpen => k_is); (case ac_TooDeep => k_is); (case tc_TooDeep => k_is); (case ic_TooDeep => k_is); (case ac_NoDeeds => k_is); (case tc_NoDeeds => k_is); (case ic_NoDeeds => k_is); (case ac_NoText => k_is); (case tc_NoText => k_is); (case ic_NoText => k_is); (case ac_NoLine => k_is); (case tc_NoLine => k_is); (case ic_NoLine => k_is); (case ac_VeilError => k_is); (case tc_VeilError => k_is); (case ic_VeilError => k_is); (case bv_VeilError => k_is); (case kc_TooMany => k_is); (case bc_TooMany => k_is); (case hg_TooMany => k_is); (case hk_TooMany => k_is); (case hd_TooMany => k_is); (case ha_TooMany => k_is); (case hm_TooMany => k_is); (case sub_TooMany_NoAsk => k_is); (case sub_TooMany_NoRight => k_is); (case sub_TooMany_NoRow => k_is); (case sub_TooMany_NotLet => k_is); (case sub_TooMany_Taken => k_is); (case sub_TooMany_Full => k_is); (case sub_TooMany_NoCondition => k_is); (case sub_TooMany_NoGround => k_is); (case sub_TooMany_NoRule => k_is); (case sub_TooMany_Twice => k_is); (case sub_TooMany_NotThere => k_is); (case sub_TooMany_NoView => k_is); (case sub_TooMany_InUse => k_is); (case sub_TooMany_NoTable => k_is); (case sub_TooMany_NoUser => k_is); (case sub_TooMany_NoneOpen => k_is); (case sub_TooMany_TooDeep => k_is); (case sub_TooMany_NoDeeds => k_is); (case sub_TooMany_NoText => k_is); (case sub_TooMany_NoLine => k_is); (case sub_TooMany_VeilError => k_is); (case sub_TooMany_ValueError => k_is); (case oh_n => k_is); (case oh_t => k_is)
    case xc_TooMany => k_exc
    case sc_TooMany => first | rfl | k_is
    case sub_TooMany_TooMany => first | rfl | k_is

