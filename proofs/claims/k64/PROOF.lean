import PyProof.Rows.All
import Wide.All
import OpenK.AllK
import Wide.FinOn
import HandS.ForMost
import HandS.Flow
import HandS.Deep
import HandS.TupAny
import HandS.Wide
import HandS.IsInst
import HandS.Conv
import HandS.RaiseMore
import HandS.TupLe
import HandS.Zip
import HandS.Strs
import HandS.SetFor
import HandS.TupSets
import HandS.Dict
import HandS.Iter
import HandS.ReplaceLit
import HandS.ReplaceDef
import HandS.NoneIn
import KE.SortData
import KE.GoesEnum
import HandS.HeadHook4
import HandS.HeadNt
import HandS.HeadWalk
import HandS.Head2
import HandS.NestedK
import PyProof.Rows.NestShow
import HandS.Star
import HandS.Comp
import HandS.Exc
import HandS.ExcOwn
import HandS.WordsExc
import HandS.ExcCtx
import HandS.ExcValue
import HandS.ExcIs
import KE.LtData
import HandS.HotCalls
import HandS.FStr
import HandS.Defaults
import HandS.CallSlots
import HandS.MakeKwOnly
import HandS.CallLocal
import HandS.DictComp
import KE.KUnpackStar
import HandS.Slots
import HandS.EndTab
import KE.KeyNested
import HandS.TupLen
import HandS.Style
import HandS.Text
import KE.KxIndex
import PySem.Challenge.RW_rowveil_k64_brackets_that_are_not_needed
set_option Elab.async false
set_option linter.all false
set_option maxRecDepth 100000
namespace Rv
open PySem L2 PySem.Spec PyProof.Rows
def topS (i : Nat) : Stmt := PySem.Challenge.pw_rowveil_k64_brackets_that_are_not_needed.main.body.getD i (.Pass ⟨0, 0, 0, 0⟩)
def clsS (i j : Nat) : Stmt := (C8.clsBody (topS i)).getD j (.Pass ⟨0, 0, 0, 0⟩)
def c_MOST_PAIRS : PyData := (.int 2)
def c_MOST_BRACKETS : PyData := (.int 20)
def c_LETTERS : PyData := (.str "abcdefghijklmnopqrstuvwxyz")
def c_WORDS : PyData := (.tuple [(.str "rows"), (.str "view"), (.str "where"), (.str "keep"), (.str "named"), (.str "pairs"), (.str "both"), (.str "less"), (.str "count"), (.str "seal"), (.str "and"), (.str "or"), (.str "not"), (.str "mine"), (.str "empty"), (.str "loud"), (.str "yes"), (.str "has")])
def c_LONGEST_NAME : PyData := (.int 8)
def c_FIGURES : PyData := (.str "0123456789")
def c_MOST_FIGURES : PyData := (.int 2)
def tab_MOST_VALUES : List (Str × PyData) := [("is", (.int 9)), ("below", (.int 10))]
def c_MOST_CONDITIONS : PyData := (.int 8)
def c_MOST_PARTS : PyData := (.int 8)
section
open PySem.W
def cB (K : PySem.W.Frag) : Nat → Value → PyData → Bool
  | _ + 1, .str x _, .str y => decide (x = y)
  | _ + 1, .int i _, .int j => decide (i = j)
  | n + 1, .ref a, .tuple ds => match K.lookup a with
    | some ⟨.type c, _, .seq its _, _⟩ => decide (c = "tuple") && (decide (its.size ≤ 100) && (decide (its.toList.length = ds.length) && (its.toList.zip ds).all fun p => cB K n p.1 p.2))
    | _ => false
  | _, _, _ => false
/-- a dict of the module, entry by entry -/
def entB (K : PySem.W.Frag) (a : Addr) (tab : List (Str × PyData)) : Bool := match K.lookup a with
  | some ⟨_, _, .dict es _, _⟩ => decide (es.toList.length = tab.length) && (es.toList.zip tab).all fun p => (match p.1.key with
    | .str x _ => decide (x = p.2.1)
    | _ => false) && cB K 9 p.1.val p.2.2
  | _ => false
def errB (K : PySem.W.Frag) (C : Addr) : Bool := decide (PySem.W.typeIn K (.ref C) = some (.type "type")) && PySem.W.isClsIn K C
def subB (K : PySem.W.Frag) (C : Addr) (v : Value) (b : Bool) : Bool := decide (PySem.W.subIn K (.ref C) v = some b)
def findB (K : PySem.W.Frag) (C : Addr) (x : Str) (o : Option (Option Value)) : Bool := decide (PySem.W.findIn K (.ref C) x = o)
def raiB (K : PySem.W.Frag) (C : Addr) : Bool :=
  PySem.W.excIn K C [.type "ValueError", .type "Exception", .type "BaseException", .type "object"] "ValueError.__new__" && (PySem.W.keepIn K (.ref C) && (subB K C (.type "BaseException") true && (subB K C (.ref C) true &&
  (findB K C "__getattribute__" (some (some (.builtin "BaseException.__getattribute__"))) && (findB K C "__getattr__" (some none) && (PySem.W.hasDictIn K C && (findB K C "__class__" (some (some (.builtin "object.__class__"))) &&
  (decide (PySem.W.specialIn K (.builtin "object.__class__") "__get__" = some (some (.builtin "getset_descriptor.__get__"))) && (decide (PySem.W.takesIn K (.builtin "object.__class__") = some true) && decide (PySem.W.mroIn K C (.type "object") = some true))))))))))
def clsV (K : PySem.W.Frag) : Str ⊕ String → Value
  | .inl c => .ref (He.ga K c)
  | .inr t => .type t
/-- errors of the program, those that it raises, which is under which -/
def errsB (K : PySem.W.Frag) (es rs : List Str) (ss : List (Str × (Str ⊕ String) × Bool)) : Bool :=
  es.all (fun c => errB K (He.ga K c)) && (rs.all (fun c => raiB K (He.ga K c)) && ss.all fun p => subB K (He.ga K p.1) (clsV K p.2.1) p.2.2)
end
section
set_option maxHeartbeats 0
def fnL : List He.DefD := [⟨("Reader", some "__init__"), "__init__", "Reader.__init__", defArgs (clsS 38 0), defBody (clsS 38 0), defScope (clsS 38 0), [], []⟩,
  ⟨("Reader", some "ahead"), "ahead", "Reader.ahead", defArgs (clsS 38 1), defBody (clsS 38 1), defScope (clsS 38 1), [], []⟩,
  ⟨("Reader", some "take"), "take", "Reader.take", defArgs (clsS 38 2), defBody (clsS 38 2), defScope (clsS 38 2), [], []⟩,
  ⟨("Reader", some "takes"), "takes", "Reader.takes", defArgs (clsS 38 3), defBody (clsS 38 3), defScope (clsS 38 3), [], []⟩,
  ⟨("Reader", some "take_this"), "take_this", "Reader.take_this", defArgs (clsS 38 4), defBody (clsS 38 4), defScope (clsS 38 4), [], []⟩,
  ⟨("Reader", some "take_name"), "take_name", "Reader.take_name", defArgs (clsS 38 5), defBody (clsS 38 5), defScope (clsS 38 5), [], []⟩,
  ⟨("Reader", some "take_number"), "take_number", "Reader.take_number", defArgs (clsS 38 6), defBody (clsS 38 6), defScope (clsS 38 6), [], []⟩,
  ⟨("Reader", some "take_names"), "take_names", "Reader.take_names", defArgs (clsS 38 7), defBody (clsS 38 7), defScope (clsS 38 7), [], []⟩,
  ⟨("Bounds", some "__init__"), "__init__", "Bounds.__init__", defArgs (clsS 39 0), defBody (clsS 39 0), defScope (clsS 39 0), [], []⟩,
  ⟨("Bounds", some "count_part"), "count_part", "Bounds.count_part", defArgs (clsS 39 1), defBody (clsS 39 1), defScope (clsS 39 1), [], []⟩,
  ⟨("Bounds", some "count_pair"), "count_pair", "Bounds.count_pair", defArgs (clsS 39 2), defBody (clsS 39 2), defScope (clsS 39 2), [], []⟩,
  ⟨("Bounds", some "enter_bracket"), "enter_bracket", "Bounds.enter_bracket", defArgs (clsS 39 3), defBody (clsS 39 3), defScope (clsS 39 3), [], []⟩,
  ⟨("Bounds", some "leave_bracket"), "leave_bracket", "Bounds.leave_bracket", defArgs (clsS 39 4), defBody (clsS 39 4), defScope (clsS 39 4), [], []⟩,
  ⟨("Bounds", some "enter_has"), "enter_has", "Bounds.enter_has", defArgs (clsS 39 5), defBody (clsS 39 5), defScope (clsS 39 5), [], []⟩,
  ⟨("Bounds", some "leave_has"), "leave_has", "Bounds.leave_has", defArgs (clsS 39 6), defBody (clsS 39 6), defScope (clsS 39 6), [], []⟩,
  ⟨("is_name", none), "is_name", "is_name", defArgs (topS 29), defBody (topS 29), defScope (topS 29), [], []⟩,
  ⟨("are_unlike", none), "are_unlike", "are_unlike", defArgs (topS 30), defBody (topS 30), defScope (topS 30), [], []⟩,
  ⟨("written_number", none), "written_number", "written_number", defArgs (topS 31), defBody (topS 31), defScope (topS 31), [], []⟩,
  ⟨("take_or", none), "take_or", "take_or", defArgs (topS 40), defBody (topS 40), defScope (topS 40), [], []⟩,
  ⟨("take_and", none), "take_and", "take_and", defArgs (topS 41), defBody (topS 41), defScope (topS 41), [], []⟩,
  ⟨("take_alone", none), "take_alone", "take_alone", defArgs (topS 42), defBody (topS 42), defScope (topS 42), [], []⟩,
  ⟨("take_bracket", none), "take_bracket", "take_bracket", defArgs (topS 43), defBody (topS 43), defScope (topS 43), [], []⟩,
  ⟨("take_has", none), "take_has", "take_has", defArgs (topS 44), defBody (topS 44), defScope (topS 44), [], []⟩,
  ⟨("take_about_column", none), "take_about_column", "take_about_column", defArgs (topS 45), defBody (topS 45), defScope (topS 45), [], []⟩,
  ⟨("take_condition", none), "take_condition", "take_condition", defArgs (topS 46), defBody (topS 46), defScope (topS 46), [], []⟩,
  ⟨("take_ask", none), "take_ask", "take_ask", defArgs (topS 47), defBody (topS 47), defScope (topS 47), [], []⟩,
  ⟨("take_first", none), "take_first", "take_first", defArgs (topS 48), defBody (topS 48), defScope (topS 48), [], []⟩,
  ⟨("take_step", none), "take_step", "take_step", defArgs (topS 49), defBody (topS 49), defScope (topS 49), [], []⟩,
  ⟨("reader_of", none), "reader_of", "reader_of", defArgs (topS 50), defBody (topS 50), defScope (topS 50), [], []⟩,
  ⟨("check_end", none), "check_end", "check_end", defArgs (topS 51), defBody (topS 51), defScope (topS 51), [], []⟩,
  ⟨("read_condition", none), "read_condition", "read_condition", defArgs (topS 52), defBody (topS 52), defScope (topS 52), [], []⟩,
  ⟨("read_ask", none), "read_ask", "read_ask", defArgs (topS 53), defBody (topS 53), defScope (topS 53), [], []⟩,
  ⟨("_law_cell_at", none), "_law_cell_at", "_law_cell_at", defArgs (topS 55), defBody (topS 55), defScope (topS 55), [], []⟩,
  ⟨("_law_draws", none), "_law_draws", "_law_draws", defArgs (topS 56), defBody (topS 56), defScope (topS 56), [], []⟩,
  ⟨("_law_name", none), "_law_name", "_law_name", defArgs (topS 57), defBody (topS 57), defScope (topS 57), [], []⟩,
  ⟨("_law_columns", none), "_law_columns", "_law_columns", defArgs (topS 58), defBody (topS 58), defScope (topS 58), [], []⟩,
  ⟨("_law_ground", none), "_law_ground", "_law_ground", defArgs (topS 59), defBody (topS 59), defScope (topS 59), [], []⟩,
  ⟨("_law_atom", none), "_law_atom", "_law_atom", defArgs (topS 60), defBody (topS 60), defScope (topS 60), [], []⟩,
  ⟨("_law_condition", none), "_law_condition", "_law_condition", defArgs (topS 61), defBody (topS 61), defScope (topS 61), [], []⟩,
  ⟨("_law_new_names", none), "_law_new_names", "_law_new_names", defArgs (topS 62), defBody (topS 62), defScope (topS 62), [], []⟩,
  ⟨("_law_kin", none), "_law_kin", "_law_kin", defArgs (topS 63), defBody (topS 63), defScope (topS 63), [], []⟩,
  ⟨("_law_some_columns", none), "_law_some_columns", "_law_some_columns", defArgs (topS 64), defBody (topS 64), defScope (topS 64), [], []⟩,
  ⟨("_law_rank", none), "_law_rank", "_law_rank", defArgs (topS 65), defBody (topS 65), defScope (topS 65), [], []⟩,
  ⟨("_law_put", none), "_law_put", "_law_put", defArgs (topS 66), defBody (topS 66), defScope (topS 66), [], []⟩,
  ⟨("_law_words", none), "_law_words", "_law_words", defArgs (topS 67), defBody (topS 67), defScope (topS 67), [], []⟩,
  ⟨("_law_wide", none), "_law_wide", "_law_wide", defArgs (topS 68), defBody (topS 68), defScope (topS 68), [], []⟩,
  ⟨("_law_told", none), "_law_told", "_law_told", defArgs (topS 69), defBody (topS 69), defScope (topS 69), [], []⟩,
  ⟨("law", none), "law", "law", defArgs (topS 70), defBody (topS 70), defScope (topS 70), [], []⟩]
def faL : List He.Fa := [.glo "Reader", .cls "Reader", .mkr "Reader", .noat "Reader" "words", .noat "Reader" "place", .glo "Bounds", .cls "Bounds", .mkr "Bounds", .noat "Bounds" "most", .noat "Bounds" "parts", .noat "Bounds" "pairs", .noat "Bounds" "brackets", .noat "Bounds" "within_has", .meth "Reader" "ahead", .meth "Reader" "take", .meth "Reader" "takes", .meth "Reader" "take_this", .meth "Reader" "take_name", .meth "Reader" "take_number", .meth "Reader" "take_names", .meth "Bounds" "count_part", .meth "Bounds" "count_pair", .meth "Bounds" "enter_bracket", .meth "Bounds" "leave_bracket", .meth "Bounds" "enter_has", .meth "Bounds" "leave_has", .glo "is_name", .glo "are_unlike", .glo "written_number", .glo "take_or", .glo "take_and", .glo "take_alone", .glo "take_bracket", .glo "take_has", .glo "take_about_column", .glo "take_condition", .glo "take_ask", .glo "take_first", .glo "take_step", .glo "reader_of", .glo "check_end", .glo "read_condition", .glo "read_ask", .glo "_law_cell_at", .glo "_law_draws", .glo "_law_name", .glo "_law_columns", .glo "_law_ground", .glo "_law_atom", .glo "_law_condition", .glo "_law_new_names", .glo "_law_kin", .glo "_law_some_columns", .glo "_law_rank", .glo "_law_put", .glo "_law_words", .glo "_law_wide", .glo "_law_told", .glo "law", .free "len", .free "all", .free "isinstance", .free "str", .free "set", .free "int", .free "range", .free "tuple", .free "min", .free "sorted", .free "any", .free "max", .free "ValueError", .int "MOST_PAIRS" 2, .int "MOST_BRACKETS" 20, .int "LONGEST_NAME" 8, .int "MOST_FIGURES" 2, .int "MOST_CONDITIONS" 8, .int "MOST_PARTS" 8, .str "LETTERS" "abcdefghijklmnopqrstuvwxyz", .str "FIGURES" "0123456789", .glo "MOST_VALUES", .glo "WORDS", .glo "TooMany", .glo "NoAsk", .glo "NoRight", .glo "NoRow", .glo "NotLet", .glo "Taken", .glo "Full", .glo "NoCondition", .glo "NoGround", .glo "NoRule", .glo "Twice", .glo "NotThere", .glo "NoView", .glo "InUse", .glo "NoTable", .glo "NoUser", .glo "NoneOpen", .glo "TooDeep", .glo "NoDeeds", .glo "NoText", .glo "NoLine", .glo "VeilError"]
def tsL : List He.Tab := [(fun K => He.ga K "MOST_VALUES", ["is", "below"])]
def tfL : List He.Defn := []
def erL : List Str := ["TooMany", "NoAsk", "NoRight", "NoRow", "NotLet", "Taken", "Full", "NoCondition", "NoGround", "NoRule", "Twice", "NotThere", "NoView", "InUse", "NoTable", "NoUser", "NoneOpen", "TooDeep", "NoDeeds", "NoText", "NoLine", "VeilError"]
def raL : List Str := ["NoText"]
def suL : List (Str × (Str ⊕ String) × Bool) := [(("VeilError" : Str), (.inr "BaseException" : Str ⊕ String), true), (("NoText" : Str), (.inl "TooMany" : Str ⊕ String), false), (("NoText" : Str), (.inl "NoAsk" : Str ⊕ String), false), (("NoText" : Str), (.inl "NoRight" : Str ⊕ String), false), (("NoText" : Str), (.inl "NoRow" : Str ⊕ String), false), (("NoText" : Str), (.inl "NotLet" : Str ⊕ String), false), (("NoText" : Str), (.inl "Taken" : Str ⊕ String), false), (("NoText" : Str), (.inl "Full" : Str ⊕ String), false), (("NoText" : Str), (.inl "NoCondition" : Str ⊕ String), false), (("NoText" : Str), (.inl "NoGround" : Str ⊕ String), false), (("NoText" : Str), (.inl "NoRule" : Str ⊕ String), false), (("NoText" : Str), (.inl "Twice" : Str ⊕ String), false), (("NoText" : Str), (.inl "NotThere" : Str ⊕ String), false), (("NoText" : Str), (.inl "NoView" : Str ⊕ String), false), (("NoText" : Str), (.inl "InUse" : Str ⊕ String), false), (("NoText" : Str), (.inl "NoTable" : Str ⊕ String), false), (("NoText" : Str), (.inl "NoUser" : Str ⊕ String), false), (("NoText" : Str), (.inl "NoneOpen" : Str ⊕ String), false), (("NoText" : Str), (.inl "TooDeep" : Str ⊕ String), false), (("NoText" : Str), (.inl "NoDeeds" : Str ⊕ String), false), (("NoText" : Str), (.inl "NoText" : Str ⊕ String), true), (("NoText" : Str), (.inl "NoLine" : Str ⊕ String), false), (("NoText" : Str), (.inl "VeilError" : Str ⊕ String), true), (("NoText" : Str), (.inr "ValueError" : Str ⊕ String), true)]
def exB (K : PySem.W.Frag) : Bool := (entB K (He.ga K "MOST_VALUES") tab_MOST_VALUES && (cB K 9 (.ref (He.ga K "WORDS")) c_WORDS && errsB K erL raL suL))
/-! ### a look at the heap when the head is done: all objects up to an address -/
section
variable {fa : List He.Fa} {fn : List He.DefD} {ts : List He.Tab} {tf : List He.Defn} {ex : PySem.W.Frag → Bool}
def asW (n : Nat) : List Addr := mainGlobals :: List.range n
abbrev kW (n : Nat) (g : Addr → Option Obj) : PySem.W.Frag := He.frT g (asW n)
def obsW (n : Nat) (fa : List He.Fa) (fn : List He.DefD) (ts : List He.Tab) (tf : List He.Defn) (ex : PySem.W.Frag → Bool) (g : Addr → Option Obj) : He.AlX :=
  (He.obsT fa fn ts (kW n g), ex (kW n g) && He.tabsB g tf (kW n g))
theorem tabs_each {g : Addr → Option Obj} {K : PySem.W.Frag} (h : He.tabsB g tf K = true) {p : He.Defn} (hp : p ∈ tf) : PySem.W.codeHdIn K (He.cT K p).1 (He.cT K p).2 = true ∧ ∃ o, g (He.cT K p).2 = some o ∧ He.emptyTab o = true := by
  have one := List.all_eq_true.mp h p hp
  rw [Bool.and_eq_true] at one
  refine ⟨one.1, ?_⟩
  have two := one.2
  revert two
  cases g (He.cT K p).2 with
  | none => exact fun z => nomatch z
  | some o => exact fun z => ⟨o, rfl, z⟩
theorem obsW_says {n : Nat} {w : World} {h : Heap} (e : obsW n fa fn ts tf ex h.get? = He.valX fn ts w) : He.SaysX fa fn ts tf ex w h (kW n h.get?) := by
  have two : (ex (kW n h.get?) && He.tabsB h.get? tf (kW n h.get?)) = true := congrArg Prod.snd e
  rw [Bool.and_eq_true] at two
  exact {
    t := congrArg Prod.fst e
    more := two.1
    hd := fun p hp => (tabs_each two.2 hp).1
    out := fun p hp => let ⟨_, _, q, z⟩ := tabs_each two.2 hp; He.frT_none q z
    empty := fun p hp => let ⟨_, _, q, z⟩ := tabs_each two.2 hp; q.trans (congrArg some (He.emptyTab_eq z)) }
def hookW (n : Nat) (fa : List He.Fa) (fn : List He.DefD) (ts : List He.Tab) (tf : List He.Defn) (ex : PySem.W.Frag → Bool) : PySem.W.Hook :=
  { α := He.AlX, obs := fun s => obsW n fa fn ts tf ex s.heap.get?, val := He.valX fn ts,
    says := fun w h => ∃ K : PySem.W.Frag, K.In h ∧ He.SaysX fa fn ts tf ex w h K,
    of := fun _ _ e => ⟨_, He.frT_in, obsW_says e⟩,
    keeps := fun _ _ _ ⟨K, i, c⟩ k => ⟨K, PySem.W.Frag.In.keeps i k, ⟨c.t, c.more, c.hd, c.out, fun p hp => k _ _ (c.empty p hp)⟩⟩ }
theorem obsW_eq {n : Nat} {g : Addr → Option Obj} {s : Shared} (h : ∀ a, g a = s.heap.get? a) : obsW n fa fn ts tf ex g = (hookW n fa fn ts tf ex).obs s := by
  obtain rfl : g = s.heap.get? := funext h
  rfl
end
abbrev lawR : PySem.W.OpenRow := PySem.W.OpenLaw.row PySem.Challenge.rw_rowveil_k64_brackets_that_are_not_needed
abbrev lawHk : PySem.W.Hook := hookW 1000 faL fnL tsL tfL exB
def lawOb (s : PySem.W.SharedT) : He.AlX := obsW 1000 faL fnL tsL tfL exB (HandSHeadRun.getT s)
theorem lawOb_eq (s : PySem.W.SharedT) : lawOb s = lawHk.obs s.abs := obsW_eq (HandSHeadRun.getT_eq s)
def lo0 : List PySem.Str := ["VeilError", "TooMany", "NoAsk", "NoRight", "NoRow", "NotLet", "Taken", "Full", "NoCondition", "NoGround", "NoRule", "Twice", "NotThere", "NoView", "InUse", "NoTable", "NoUser", "NoneOpen", "TooDeep", "NoDeeds", "NoText", "NoLine", "LONGEST_NAME", "LETTERS", "FIGURES", "MOST_FIGURES", "WORDS", "is_name", "are_unlike", "written_number"]
def lo1 : List PySem.Str := ["MOST_CONDITIONS", "MOST_VALUES", "MOST_PAIRS", "MOST_PARTS", "MOST_BRACKETS", "Reader", "Bounds", "take_or", "take_and", "take_alone", "take_bracket", "take_has", "take_about_column", "take_condition", "take_ask", "take_first", "take_step", "reader_of", "check_end", "read_condition", "read_ask", "_law_cell_at", "_law_draws", "_law_name", "_law_columns", "_law_ground", "_law_atom", "_law_condition", "_law_new_names", "_law_kin"]
def lo2 : List PySem.Str := ["_law_some_columns", "_law_rank", "_law_put", "_law_words", "_law_wide", "_law_told"]
def loL : List PySem.Str := lo0 ++ lo1 ++ lo2
open PySem PySem.W HandSHeadRun in
noncomputable abbrev headRun (w : World) (os : OsState) := endF (stepQ (denQ tabQ) lawR.prog w) 10000 lawR.prog w os
abbrev fragL (s : PySem.W.SharedT) : PySem.W.Frag := kW 1000 (HandSHeadRun.getT s)
open PySem PySem.W HandSHeadRun in
abbrev headB (w : World) : Prop := ∀ os : OsState, (headRun w os).map (fun s => (looksF lawR.prog (boot_heap w.params) s.abs, seenQ (view lawR.prog [70]) loL (importedModules lawR.prog.main.body) (fun s => xlAt (view lawR.prog [70]) [] s && recOk lawR.toRowW.records s) s.abs)) = some (true, openGood (view lawR.prog [70]) loL)
open PySem PySem.W HandSHeadRun in
abbrev headD (w : World) : Prop := ∀ os : OsState, (headRun w os).map (fun s => (He.obsT faL fnL tsL (fragL s), exB (fragL s) && He.tabsB (HandSHeadRun.getT s) tfL (fragL s))) = some (He.valT fnL tsL w, true)
theorem headB_false : ∀ w : PySem.World, headB (w.withFollow "special-get-raises" false) := fun w os => by kernel_rfl
theorem headB_true : ∀ w : PySem.World, headB (w.withFollow "special-get-raises" true) := fun w os => by kernel_rfl
theorem headD_false : ∀ w : PySem.World, headD (w.withFollow "special-get-raises" false) := fun w os => by kernel_rfl
theorem headD_true : ∀ w : PySem.World, headD (w.withFollow "special-get-raises" true) := fun w os => by kernel_rfl
theorem join2 {S A B C : Type} {x : Option S} {f1 : S → A} {f2 : S → B} {f3 : S → C} {a : A} {b : B} {c : C} (h1 : x.map (fun s => (f1 s, f2 s)) = some (a, b)) (h2 : x.map f3 = some c) : x.map (fun s => (f1 s, f2 s, f3 s)) = some (a, b, c) := by
  cases x with
  | none => cases h2
  | some s =>
    have e1 : (f1 s, f2 s) = (a, b) := Option.some.inj h1
    have e2 : f3 s = c := Option.some.inj h2
    show some (f1 s, f2 s, f3 s) = _
    rw [e2, show f1 s = a from congrArg Prod.fst e1, show f2 s = b from congrArg Prod.snd e1]
theorem lawOb_is : lawOb = fun s => (He.obsT faL fnL tsL (fragL s), exB (fragL s) && He.tabsB (HandSHeadRun.getT s) tfL (fragL s)) := rfl
theorem lawVal_is (w : PySem.World) : lawHk.val w = (He.valT fnL tsL w, true) := rfl
open PySem PySem.W in
theorem lawRun : ∀ w : World, HandSHeadRun.RunEq lawR (PySem.W.view lawR.prog [70]) lawHk lawOb 10000 loL w := fun w os => by
  have h := join2 (byRow2 "special-get-raises" headB_false headB_true w os) (byRow2 "special-get-raises" headD_false headD_true w os)
  rw [lawVal_is, lawOb_is]
  exact h
end
end Rv
namespace Rv
open PySem L2
/-- a mirror's slots -/
abbrev En := List (Option PyData)
/-- addresses whose objects may be changed by anybody, and what is true of them all along -/
def Ld : HO → Prop
  | .dT _ => True
  | .dK _ => True
  | .ins _ _ _ => True
  | _ => False
/-- what a field of an own instance holds: data, or one of these -/
inductive FK where
  | data | con (l : List Addr)
class Lz where
  z : Addr → Option (HO → Prop)
  kd : ∀ p I, z p = some I → ∀ t, I t → Ld t
  ts : List Addr
  nm : Addr → Nat → Nat → Str
  kc : Nat → Addr
  fk : Nat → Str → FK
variable [Lz]
/-- the code tables and what they tell -/
abbrev tabsL : List NdefX.NTab := Lz.ts.map fun p => (p, Lz.nm p)
def TabsJ (H : Hp) : Prop := NdefX.TabsN tabsL H
theorem Lz.nt (p : Addr) (I : HO → Prop) (h : Lz.z p = some I) (ps : Array Value) : ¬ I (.tbl ps) := fun i => Lz.kd p I h _ i
/-- no code table, nothing that may be changed -/
def NT (p : Addr) : HO → Prop
  | .tbl _ => False
  | .dT _ => Lz.z p = none
  | .dK _ => Lz.z p = none
  | .ins _ _ _ => Lz.z p = none
  | _ => True
theorem NT.or (p : Addr) : ∀ thing : HO, (∃ ps, thing = .tbl ps) ∨ NT p thing ∨ ∃ I, Lz.z p = some I := fun thing => by
  cases e : Lz.z p with
  | some I => exact .inr (.inr ⟨I, rfl⟩)
  | none =>
    cases thing with
    | tbl ps => exact .inl ⟨ps, rfl⟩
    | dT _ => exact .inr (.inl e)
    | dK _ => exact .inr (.inl e)
    | ins _ _ _ => exact .inr (.inl e)
    | _ => exact .inr (.inl True.intro)
/-- what H tracks, later tracks too: unchanged, but code tables and what may be changed -/
structure Ex (H later : Hp) : Prop where
  keep : ∀ (p : Addr) (thing : HO), H p = some thing → NT p thing → later p = some thing
  tab : ∀ (p : Addr) (ps : Array Value), H p = some (.tbl ps) → ∃ t2, later p = some t2
  loud : ∀ (p : Addr) (thing : HO) (I : HO → Prop), Lz.z p = some I → H p = some thing → ∃ t2, later p = some t2 ∧ (I thing → I t2)
theorem Ex.at {H later : Hp} {p : Addr} {thing : HO} (e : Ex H later) (h : H p = some thing) (n : NT p thing := by trivial) : later p = some thing := e.keep p thing h n
theorem Ex.of {H later : Hp} (e : ∀ (p : Addr) (thing : HO), H p = some thing → later p = some thing) : Ex H later := ⟨fun p t h _ => e p t h, fun p ps h => ⟨_, e _ _ h⟩, fun p t I _ h => ⟨t, e _ _ h, id⟩⟩
theorem Ex.ther {H later : Hp} {p : Addr} {thing : HO} (e : Ex H later) (h : H p = some thing) : ∃ t2, later p = some t2 := by
  rcases NT.or p thing with ⟨ps, rfl⟩ | n | ⟨I, hz⟩
  · obtain ⟨qs, z⟩ := e.tab p ps h
    exact ⟨_, z⟩
  · exact ⟨_, e.at h n⟩
  · obtain ⟨t2, z, _⟩ := e.loud p thing I hz h
    exact ⟨t2, z⟩
theorem Ex.refl (H : Hp) : Ex H H := .of fun _ _ q => q
theorem Ex.trans {H1 H2 H3 : Hp} (f : Ex H1 H2) (g : Ex H2 H3) : Ex H1 H3 := ⟨fun p thing q n => g.keep p thing (f.keep p thing q n) n, fun p ps q => by
  obtain ⟨t2, z⟩ := f.tab p ps q
  exact g.ther z, fun p thing I hz q => by
  obtain ⟨t2, z2, i2⟩ := f.loud p thing I hz q
  obtain ⟨t3, z3, i3⟩ := g.loud p t2 I hz z2
  exact ⟨t3, z3, fun i => i3 (i2 i)⟩⟩
theorem Ex.free {H H' : Hp} {p : Addr} (e : Ex H H') (h : H' p = none) : H p = none := by
  cases h1 : H p with
  | none => rfl
  | some o =>
    obtain ⟨t2, z⟩ := e.ther h1
    rw [z] at h
    cases h
/-- .. of whole heaps: what the tables tell stays -/
structure ExT (H later : Hp) : Prop where
  ex : Ex H later
  tell : TabsJ H → TabsJ later
instance {H later : Hp} : Coe (ExT H later) (Ex H later) := ⟨ExT.ex⟩
theorem ExT.at {H later : Hp} {p : Addr} {thing : HO} (e : ExT H later) (h : H p = some thing) (n : NT p thing := by trivial) : later p = some thing := e.ex.keep p thing h n
theorem ExT.of {H later : Hp} (e : ∀ (p : Addr) (thing : HO), H p = some thing → later p = some thing) : ExT H later := ⟨.of e, fun t => NdefX.TabsN.ext t e⟩
theorem ExT.refl (H : Hp) : ExT H H := .of fun _ _ q => q
theorem ExT.trans {H1 H2 H3 : Hp} (f : ExT H1 H2) (g : ExT H2 H3) : ExT H1 H3 := ⟨f.ex.trans g.ex, fun t => g.tell (f.tell t)⟩
theorem ExT.new {H : Hp} {fresh : Addr} {thing : HO} (none_there : H fresh = none) : ExT H (upd H fresh thing) := .of fun p other q => by
  rw [upd_ne (ne_of_none q none_there)]
  exact q
theorem ExT.free {H H' : Hp} {p : Addr} (e : ExT H H') (h : H' p = none) : H p = none := e.ex.free h
theorem ExT.ther {H later : Hp} {p : Addr} {thing : HO} (e : ExT H later) (h : H p = some thing) : ∃ t2, later p = some t2 := e.ex.ther h
/-- either of both, of a heap to itself -/
class RF (R : Prop) : Prop where
  pf : R
instance {H : Hp} : RF (Ex H H) := ⟨Ex.refl H⟩
instance {H : Hp} : RF (ExT H H) := ⟨ExT.refl H⟩
theorem erefl {R : Prop} [h : RF R] : R := h.pf
theorem Ex.rd {H H' : Hp} {a : Addr} {u : HO} (e : Ex H H') (h : Rd H a u) (n : NT a u := by trivial) : Rd H' a u := by
  rcases h with h | ⟨o, h⟩
  · exact .inl (e.at h n)
  · exact .inr ⟨o, e.at h⟩
theorem Ex.sl {K : PySem.W.Frag} {H H' : Hp} {a : Addr} {xs : List V} (e : Ex H H') (h : SqL K H a xs) : SqL K H' a xs := by
  rcases h with h | h
  · exact .inl (e.rd h)
  · exact .inr h
theorem Ex.st {K : PySem.W.Frag} {H H' : Hp} {a : Addr} {xs : List V} (e : Ex H H') (h : SqT K H a xs) : SqT K H' a xs := by
  rcases h with h | h
  · exact .inl (e.rd h)
  · exact .inr h
theorem ExT.sl {K : PySem.W.Frag} {H H' : Hp} {a : Addr} {xs : List V} (e : ExT H H') (h : SqL K H a xs) : SqL K H' a xs := e.ex.sl h
theorem ExT.st {K : PySem.W.Frag} {H H' : Hp} {a : Addr} {xs : List V} (e : ExT H H') (h : SqT K H a xs) : SqT K H' a xs := e.ex.st h
section
variable {K : PySem.W.Frag} {H H' : Hp}
mutual
theorem dp_ex (e : Ex H H') : ∀ {v : V} {d : PyData}, Dp K H v d → Dp K H' v d
  | _, _, .non => .non
  | _, _, .bl b => .bl b
  | _, _, .int i => .int i
  | _, _, .str x => .str x
  | _, _, .lst h a => .lst (e.sl h) (dpAll_ex e a)
  | _, _, .tup h a => .tup (e.st h) (dpAll_ex e a)
theorem dpAll_ex (e : Ex H H') : ∀ {vs : List V} {ds : List PyData}, DpAll K H vs ds → DpAll K H' vs ds
  | _, _, .nil => .nil
  | _, _, .cons h a => .cons (dp_ex e h) (dpAll_ex e a)
end
theorem dpAll_len : ∀ {vs : List V} {ds : List PyData}, DpAll K H vs ds → vs.length = ds.length
  | _, _, .nil => rfl
  | _, _, .cons _ a => by rw [List.length_cons, List.length_cons, dpAll_len a]
theorem dpAll_get' : ∀ {vs : List V} {ds : List PyData} {i : Nat} {d : PyData}, DpAll K H vs ds → ds[i]? = some d → ∃ v, vs[i]? = some v ∧ Dp K H v d
  | _, _, _, _, .nil, h => by simp at h
  | _, _, 0, _, .cons h _, e => by
    obtain rfl := Option.some.inj ((List.getElem?_cons_zero ..).symm.trans e)
    exact ⟨_, rfl, h⟩
  | _, _, i + 1, v, .cons _ a, e => by
    obtain ⟨d, h1, h2⟩ := dpAll_get' (i := i) (d := v) a (by simpa using e)
    exact ⟨d, by simpa using h1, h2⟩
theorem dpAll_app : ∀ {vs ws : List V} {ds es : List PyData}, DpAll K H vs ds → DpAll K H ws es → DpAll K H (vs ++ ws) (ds ++ es)
  | _, _, _, _, .nil, b => b
  | _, _, _, _, .cons h a, b => .cons h (dpAll_app a b)
theorem dpAll_take : ∀ {vs : List V} {ds : List PyData} (n : Nat), DpAll K H vs ds → DpAll K H (vs.take n) (ds.take n)
  | _, _, 0, _ => .nil
  | _, _, _ + 1, .nil => .nil
  | _, _, n + 1, .cons h a => .cons h (dpAll_take n a)
theorem dpAll_drop : ∀ {vs : List V} {ds : List PyData} (n : Nat), DpAll K H vs ds → DpAll K H (vs.drop n) (ds.drop n)
  | _, _, 0, a => a
  | _, _, _ + 1, .nil => .nil
  | _, _, n + 1, .cons _ a => dpAll_drop n a
theorem dpAll_rep : ∀ {vs : List V} {ds : List PyData} (n : Nat), DpAll K H vs ds → DpAll K H (List.replicate n vs).flatten (List.replicate n ds).flatten
  | _, _, 0, _ => .nil
  | _, _, n + 1, a => by
    simp only [List.replicate_succ, List.flatten_cons]
    exact dpAll_app a (dpAll_rep n a)
theorem dpAll_of_ints : ∀ (ns : List Int), DpAll K H (ns.map V.int) (ns.map PyData.int)
  | [] => .nil
  | n :: ns => .cons (.int n) (dpAll_of_ints ns)
theorem dpAll_bools : ∀ {vs : List V} {bs : List Bool}, DpAll K H vs (bs.map PyData.bool) → vs = bs.map V.bl
  | _, [], h => by
    have h' : DpAll K H _ [] := h
    cases h'
    rfl
  | _, n :: ns, h => by
    have h' : DpAll K H _ (PyData.bool n :: ns.map PyData.bool) := h
    cases h' with
    | cons h1 h2 =>
      cases h1
      rw [dpAll_bools h2]
      rfl
theorem dpAll_strs : ∀ {vs : List V} {ns : List Str}, DpAll K H vs (ns.map PyData.str) → vs = ns.map V.str
  | _, [], h => by
    have h' : DpAll K H _ [] := h
    cases h'
    rfl
  | _, n :: ns, h => by
    have h' : DpAll K H _ (PyData.str n :: ns.map PyData.str) := h
    cases h' with
    | cons h1 h2 =>
      cases h1
      rw [dpAll_strs h2]
      rfl
theorem dpAll_of_strs : ∀ (ns : List Str), DpAll K H (ns.map V.str) (ns.map PyData.str)
  | [] => .nil
  | n :: ns => .cons (.str n) (dpAll_of_strs ns)
end
def cut (H : Hp) (O : List Addr) : Hp := fun a => if a ∈ O then none else H a
theorem cut_in {H : Hp} {O : List Addr} {a : Addr} (h : a ∈ O) : cut H O a = none := if_pos h
theorem cut_out {H : Hp} {O : List Addr} {a : Addr} (h : a ∉ O) : cut H O a = H a := if_neg h
theorem cut_ex {H : Hp} {O : List Addr} : Ex (cut H O) H := .of fun a o e => by
  by_cases h : a ∈ O
  · rw [cut_in h] at e
    cases e
  · rw [cut_out h] at e
    exact e
theorem cut_mono {H H' : Hp} {O : List Addr} (e : ExT H H') : Ex (cut H O) (cut H' O) := ⟨fun a o q n => by
  by_cases h : a ∈ O
  · rw [cut_in h] at q
    cases q
  · rw [cut_out h] at q ⊢
    exact e.ex.keep a o q n, fun a ps q => by
  by_cases h : a ∈ O
  · rw [cut_in h] at q
    cases q
  · rw [cut_out h] at q ⊢
    exact e.ex.tab a ps q, fun a o I hz q => by
  by_cases h : a ∈ O
  · rw [cut_in h] at q
    cases q
  · rw [cut_out h] at q
    obtain ⟨t2, z, i⟩ := e.ex.loud a o I hz q
    exact ⟨t2, by rw [cut_out h]; exact z, i⟩⟩
theorem cut_less {H : Hp} {O O' : List Addr} (s : ∀ a ∈ O', a ∈ O) : Ex (cut H O) (cut H O') := .of fun a o q => by
  by_cases h : a ∈ O
  · rw [cut_in h] at q
    cases q
  · rw [cut_out h] at q
    rw [cut_out fun z => h (s a z)]
    exact q
/-- a new object beside the owned ones -/
theorem cut_new {H : Hp} {O : List Addr} {p : Addr} {o : HO} (ht : ∀ l ∈ O, ∃ u, H l = some u) (hp : H p = none) : cut (upd H p o) O p = some o := by
  have h : p ∉ O := fun z => by
    obtain ⟨u, e⟩ := ht p z
    rw [e] at hp
    cases hp
  rw [cut_out h, upd_same]
/-- a value that lies outside the owned, or an owned list whose items do -/
def Dq (K : PySem.W.Frag) (H : Hp) (O : List Addr) (v : V) (d : PyData) : Prop :=
  Dp K (cut H O) v d ∨ ∃ l xs ds, v = .ref l ∧ H l = some (.lst xs) ∧ d = .list ds ∧ DpAll K (cut H O) xs ds
theorem Dq.dp {K : PySem.W.Frag} {H : Hp} {O : List Addr} {v : V} {d : PyData} (h : Dq K H O v d) : Dp K H v d := by
  rcases h with h | ⟨l, xs, ds, rfl, hl, rfl, ha⟩
  · exact dp_ex cut_ex h
  · exact .lst (.inl (.inl hl)) (dpAll_ex cut_ex ha)
theorem Dq.ex {K : PySem.W.Frag} {H H' : Hp} {O : List Addr} {v : V} {d : PyData} (e : ExT H H') (h : Dq K H O v d) : Dq K H' O v d := by
  rcases h with h | ⟨l, xs, ds, rfl, hl, rfl, ha⟩
  · exact .inl (dp_ex (cut_mono e) h)
  · exact .inr ⟨l, xs, ds, rfl, e.at hl, rfl, dpAll_ex (cut_mono e) ha⟩
/-- the items of a list -/
theorem Dq.list {K : PySem.W.Frag} {H : Hp} {O : List Addr} {v : V} {ds : List PyData} (h : Dq K H O v (.list ds)) : ∃ a xs, v = .ref a ∧ SqL K H a xs ∧ DpAll K (cut H O) xs ds := by
  rcases h with h | ⟨l, xs, es, rfl, hl, he, ha⟩
  · cases h with
    | lst hs ha => exact ⟨_, _, rfl, cut_ex.sl hs, ha⟩
  · cases he
    exact ⟨l, xs, rfl, .inl (.inl hl), ha⟩
theorem Dq.tuple {K : PySem.W.Frag} {H : Hp} {O : List Addr} {v : V} {ds : List PyData} (h : Dq K H O v (.tuple ds)) : ∃ a xs, v = .ref a ∧ SqT K H a xs ∧ DpAll K (cut H O) xs ds ∧ SqT K (cut H O) a xs := by
  rcases h with h | ⟨l, xs, es, rfl, hl, he, ha⟩
  · cases h with
    | tup hs ha => exact ⟨_, _, rfl, cut_ex.st hs, ha, hs⟩
  · cases he
theorem Dq.int {K : PySem.W.Frag} {H : Hp} {O : List Addr} {v : V} {i : Int} (h : Dq K H O v (.int i)) : v = .int i := by
  rcases h with h | ⟨l, xs, es, rfl, hl, he, ha⟩
  · cases h
    rfl
  · cases he
theorem Dq.bool {K : PySem.W.Frag} {H : Hp} {O : List Addr} {v : V} {b : Bool} (h : Dq K H O v (.bool b)) : v = .bl b := by
  rcases h with h | ⟨l, xs, es, rfl, hl, he, ha⟩
  · cases h
    rfl
  · cases he
theorem Dq.str {K : PySem.W.Frag} {H : Hp} {O : List Addr} {v : V} {x : Str} (h : Dq K H O v (.str x)) : v = .str x := by
  rcases h with h | ⟨l, xs, es, rfl, hl, he, ha⟩
  · cases h
    rfl
  · cases he
theorem Dq.none {K : PySem.W.Frag} {H : Hp} {O : List Addr} {v : V} (h : Dq K H O v .none) : v = .non := by
  rcases h with h | ⟨l, xs, es, rfl, hl, he, ha⟩
  · cases h
    rfl
  · cases he
theorem Dq.dict {K : PySem.W.Frag} {H : Hp} {O : List Addr} {v : V} {kv} (h : Dq K H O v (.dict kv)) : False := by
  rcases h with h | ⟨l, xs, es, rfl, hl, he, ha⟩
  · cases h
  · cases he
/-- how a value reads as a thing of the mirror -/
abbrev Rel := Hp → V → PyData → Prop
/-- what kind of own slot is i? (1000 + i: a dict by tuples; 2000 + i: one by texts; 3000 + i: one by texts, of pairs; 4000 + i and on: an instance of the class 0, 1, ..) -/
def dictSL (ls : List Nat) (i : Nat) : Nat := if 1000 + i ∈ ls then 1 else if 2000 + i ∈ ls then 2 else if 3000 + i ∈ ls then 3 else if 4000 + i ∈ ls then 4 else if 5000 + i ∈ ls then 5 else if 6000 + i ∈ ls then 6 else if 7000 + i ∈ ls then 7 else 0
/-- a slot that always holds one reference -/
def IsPin (R : Hp → V → PyData → Prop) : Prop := ∃ l, R = fun _ v _ => v = .ref l
/-- the slots of own lists and dicts, what is to hold of the heap all along, the slots of things that are no data and how they read -/
structure MM where
  ls : List Nat
  J : Hp → Prop
  mono : ∀ H H', ExT H H' → J H → J H'
  lo : ∀ H, J H → ∀ p I, Lz.z p = some I → ∃ t, H p = some t ∧ I t
  gh : List (Nat × Rel)
  ghm : ∀ i R, gh.lookup i = some R → ∀ H H' v d, Ex H H' → R H v d → R H' v d
  dis : ∀ i ∈ ls, ∀ R, gh.lookup i = some R → IsPin R ∧ 4 ≤ dictSL ls i
theorem dis_of {ls : List Nat} {gh : List (Nat × Rel)} (h : ∀ i ∈ ls, gh.lookup i = none) : ∀ i ∈ ls, ∀ R, gh.lookup i = some R → IsPin R ∧ 4 ≤ dictSL ls i := fun i hi R e => by
  rw [h i hi] at e
  cases e
instance : Membership Nat MM := ⟨fun m i => i ∈ m.ls ∨ (m.gh.lookup i).isSome = true⟩
instance (i : Nat) (m : MM) : Decidable (i ∈ m) := inferInstanceAs (Decidable (i ∈ m.ls ∨ (m.gh.lookup i).isSome = true))
theorem mmIn {m : MM} {i : Nat} (h : m.ls.contains i = true) : i ∈ m.ls := List.contains_iff_mem.mp h
theorem mmOut {m : MM} {i : Nat} (h : (m.ls.contains i || (m.gh.lookup i).isSome) = false) : i ∉ m := fun z => by
  rcases z with z | z
  · have := List.contains_iff_mem.mpr z
    rw [this] at h
    cases h
  · rw [z, Bool.or_true] at h
    cases h
theorem mmNo {m : MM} {i : Nat} (h : i ∉ m) : m.gh.lookup i = none := by
  cases e : m.gh.lookup i with
  | none => rfl
  | some R => exact absurd (Or.inr (by rw [e]; rfl)) h
theorem look_mem {α : Type} : ∀ {l : List (Nat × α)} {i : Nat} {a : α}, l.lookup i = some a → (i, a) ∈ l
  | (j, b) :: l, i, a, h => by
    rw [List.lookup_cons] at h
    split at h
    · rename_i e
      cases h
      rw [eq_of_beq e]
      exact List.mem_cons_self
    · exact List.mem_cons_of_mem _ (look_mem h)
theorem mmAll {m : MM} {n : Nat} (h : ((m.ls.all fun i => decide (n ≤ i)) && (m.gh.map Prod.fst).all fun i => decide (n ≤ i)) = true) : ∀ i ∈ m, n ≤ i := fun i hi => by
  rw [Bool.and_eq_true] at h
  rcases hi with hi | hi
  · exact of_decide_eq_true (List.all_eq_true.mp h.1 i hi)
  · obtain ⟨R, e⟩ := Option.isSome_iff_exists.mp hi
    exact of_decide_eq_true (List.all_eq_true.mp h.2 i (List.mem_map.mpr ⟨_, look_mem e, rfl⟩))
/-- no such slots -/
def mm1 (ls : List Nat) (J : Hp → Prop) (mono : ∀ H H', ExT H H' → J H → J H') (lo : ∀ H, J H → ∀ p I, Lz.z p = some I → ∃ t, H p = some t ∧ I t) : MM := ⟨ls, J, mono, lo, [], fun i R h => (by cases h), dis_of fun i _ => rfl⟩
/-- what may be changed is there -/
def LoJ (H : Hp) : Prop := ∀ p I, Lz.z p = some I → ∃ t, H p = some t ∧ I t
theorem LoJ.mono {H H' : Hp} (e : Ex H H') (h : LoJ H) : LoJ H' := fun p I q => by
  obtain ⟨t, h1, h2⟩ := h p I q
  obtain ⟨t2, g1, g2⟩ := e.loud p t I q h1
  exact ⟨t2, g1, g2 h2⟩
/-- what is to hold of the heap all along: what may be changed is there, the tables tell -/
def JJ (H : Hp) : Prop := LoJ H ∧ TabsJ H
theorem JJ.mono {H H' : Hp} (e : ExT H H') (j : JJ H) : JJ H' := ⟨j.1.mono e.ex, e.tell j.2⟩
abbrev mJ (ls : List Nat) : MM := mm1 ls JJ (fun _ _ e => JJ.mono e) (fun _ h => h.1)
def mm0 (ls : List Nat) : MM := mm1 ls LoJ (fun _ _ e => LoJ.mono e.ex) (fun _ h => h)
end Rv
namespace Rv
open PySem L2
variable [Lz]
/-- the keys of a dict of tuples, as data -/
def keyD : Key → PyData
  | .inl i => .int i
  | .inr x => .str x
/-- the entries of a dict whose keys are tuples -/
inductive KvD (K : PySem.W.Frag) (H : Hp) : List (List Key × V) → List (PyData × PyData) → Prop
  | nil : KvD K H [] []
  | cons {key : List Key} {v : V} {d : PyData} {kvs : List (List Key × V)} {es : List (PyData × PyData)} : Dp K H v d → KvD K H kvs es → KvD K H ((key, v) :: kvs) ((.tuple (key.map keyD), d) :: es)
theorem kvd_ex {K : PySem.W.Frag} {H H' : Hp} (e : Ex H H') : ∀ {kvs : List (List Key × V)} {es : List (PyData × PyData)}, KvD K H kvs es → KvD K H' kvs es
  | _, _, .nil => .nil
  | _, _, .cons h r => .cons (dp_ex e h) (kvd_ex e r)
/-- the entries of a dict whose keys are texts and whole numbers -/
inductive KvK (K : PySem.W.Frag) (H : Hp) : List (Key × V) → List (PyData × PyData) → Prop
  | nil : KvK K H [] []
  | cons {key : Key} {v : V} {d : PyData} {kvs : List (Key × V)} {es : List (PyData × PyData)} : Dp K H v d → KvK K H kvs es → KvK K H ((key, v) :: kvs) ((keyD key, d) :: es)
theorem kvk_ex {K : PySem.W.Frag} {H H' : Hp} (e : Ex H H') : ∀ {kvs : List (Key × V)} {es : List (PyData × PyData)}, KvK K H kvs es → KvK K H' kvs es
  | _, _, .nil => .nil
  | _, _, .cons h r => .cons (dp_ex e h) (kvk_ex e r)
/-- a pair: a tuple of texts whose object is known to have no dict, and data -/
def PairV (K : PySem.W.Frag) (H : Hp) (v : V) (d : PyData) : Prop := ∃ (p a : Addr) (o : Obj) (ys : List Str) (vr : V) (rd : PyData), v = .ref p ∧ d = .tuple [.tuple (ys.map .str), rd] ∧ SqT K H p [.ref a, vr] ∧ H a = some (.frz o (.tup (ys.map V.str))) ∧ o.dict = none ∧ Dp K H vr rd
theorem pairV_ex {K : PySem.W.Frag} {H H' : Hp} {v : V} {d : PyData} (e : Ex H H') (h : PairV K H v d) : PairV K H' v d := by
  obtain ⟨p, a, o, ys, vr, rd, h1, h2, h3, h4, h5, h6⟩ := h
  exact ⟨p, a, o, ys, vr, rd, h1, h2, e.st h3, e.at h4, h5, dp_ex e h6⟩
/-- the entries of a dict of such pairs -/
inductive KvP (K : PySem.W.Frag) (H : Hp) : List (Key × V) → List (PyData × PyData) → Prop
  | nil : KvP K H [] []
  | cons {key : Key} {v : V} {d : PyData} {kvs : List (Key × V)} {es : List (PyData × PyData)} : PairV K H v d → KvP K H kvs es → KvP K H ((key, v) :: kvs) ((keyD key, d) :: es)
theorem kvp_ex {K : PySem.W.Frag} {H H' : Hp} (e : Ex H H') : ∀ {kvs : List (Key × V)} {es : List (PyData × PyData)}, KvP K H kvs es → KvP K H' kvs es
  | _, _, .nil => .nil
  | _, _, .cons h r => .cons (pairV_ex e h) (kvp_ex e r)
/-- what a field holds -/
def FR (K : PySem.W.Frag) (H : Hp) : FK → V → PyData → Prop
  | .data, v, d => Dp K H v d
  | .con l, v, d => ∃ (n : Nat) (a : Addr), l[n]? = some a ∧ v = .ref a ∧ d = .int (n : Nat)
theorem fr_ex {K : PySem.W.Frag} {H H' : Hp} (e : Ex H H') : ∀ {k : FK} {v : V} {d : PyData}, FR K H k v d → FR K H' k v d
  | .data, _, _, h => dp_ex e h
  | .con _, _, _, h => h
/-- the fields of an instance of the class c -/
inductive KvF (K : PySem.W.Frag) (H : Hp) (c : Nat) : List (Str × V) → List (PyData × PyData) → Prop
  | nil : KvF K H c [] []
  | cons {f : Str} {v : V} {d : PyData} {fs : List (Str × V)} {es : List (PyData × PyData)} : FR K H (Lz.fk c f) v d → KvF K H c fs es → KvF K H c ((f, v) :: fs) ((.str f, d) :: es)
theorem kvf_ex {K : PySem.W.Frag} {H H' : Hp} {c : Nat} (e : Ex H H') : ∀ {fs : List (Str × V)} {es : List (PyData × PyData)}, KvF K H c fs es → KvF K H' c fs es
  | _, _, .nil => .nil
  | _, _, .cons h r => .cons (fr_ex e h) (kvf_ex e r)
/-- what an owned object holds: a list, a dict by tuples, a dict by texts, one of pairs, an instance -/
def OwD (K : PySem.W.Frag) (H : Hp) (kind : Nat) (o : HO) (d : PyData) : Prop := match kind with
  | 0 => ∃ xs ds, o = .lst xs ∧ d = .list ds ∧ DpAll K H xs ds
  | 1 => ∃ kvs es, o = .dT kvs ∧ d = .dict es ∧ KvD K H kvs es ∧ (kvs.map Prod.fst).Nodup
  | 2 => ∃ kvs es, o = .dK kvs ∧ d = .dict es ∧ KvK K H kvs es
  | 3 => ∃ kvs es, o = .dK kvs ∧ d = .dict es ∧ KvP K H kvs es
  | c + 4 => ∃ dx fs es, o = .ins (Lz.kc c) dx fs ∧ d = .dict es ∧ KvF K H c fs es ∧ fs.length < 1000
theorem OwD.ex {K : PySem.W.Frag} {H H' : Hp} {c : Nat} {o : HO} {d : PyData} (e : Ex H H') (h : OwD K H c o d) : OwD K H' c o d := by
  match c, h with
  | 0, h =>
    obtain ⟨xs, ds, h1, h2, h3⟩ := h
    exact ⟨xs, ds, h1, h2, dpAll_ex e h3⟩
  | 1, h =>
    obtain ⟨xs, ds, h1, h2, h3, h4⟩ := h
    exact ⟨xs, ds, h1, h2, kvd_ex e h3, h4⟩
  | 2, h =>
    obtain ⟨xs, ds, h1, h2, h3⟩ := h
    exact ⟨xs, ds, h1, h2, kvk_ex e h3⟩
  | 3, h =>
    obtain ⟨xs, ds, h1, h2, h3⟩ := h
    exact ⟨xs, ds, h1, h2, kvp_ex e h3⟩
  | _ + 4, h =>
    obtain ⟨dx, xs, ds, h1, h2, h3, h4⟩ := h
    exact ⟨dx, xs, ds, h1, h2, kvf_ex e h3, h4⟩
theorem OwD.nt {K : PySem.W.Frag} {H : Hp} {l : Addr} {c : Nat} {o : HO} {d : PyData} (h : OwD K H c o d) (q : Lz.z l = none) : NT l o := by
  match c, h with
  | 0, ⟨xs, ds, h1, _⟩ => rw [h1]; trivial
  | 1, ⟨xs, ds, h1, _⟩ => rw [h1]; exact q
  | 2, ⟨xs, ds, h1, _⟩ => rw [h1]; exact q
  | 3, ⟨xs, ds, h1, _⟩ => rw [h1]; exact q
  | _ + 4, ⟨dx, xs, ds, h1, _⟩ => rw [h1]; exact q
theorem OwD.notb {K : PySem.W.Frag} {H : Hp} {c : Nat} {o : HO} {d : PyData} (h : OwD K H c o d) : ∀ ps, o ≠ .tbl ps := fun φ z => by
  match c, h with
  | 0, ⟨xs, ds, h1, _⟩ => rw [h1] at z; cases z
  | 1, ⟨xs, ds, h1, _⟩ => rw [h1] at z; cases z
  | 2, ⟨xs, ds, h1, _⟩ => rw [h1] at z; cases z
  | 3, ⟨xs, ds, h1, _⟩ => rw [h1] at z; cases z
  | _ + 4, ⟨dx, xs, ds, h1, _⟩ => rw [h1] at z; cases z
theorem OwD.noext {K : PySem.W.Frag} {H : Hp} {c : Nat} {o : HO} {d : PyData} (h : OwD K H c o d) : ∀ φ, o ≠ .ext φ := fun φ z => by
  match c, h with
  | 0, ⟨xs, ds, h1, _⟩ => rw [h1] at z; cases z
  | 1, ⟨xs, ds, h1, _⟩ => rw [h1] at z; cases z
  | 2, ⟨xs, ds, h1, _⟩ => rw [h1] at z; cases z
  | 3, ⟨xs, ds, h1, _⟩ => rw [h1] at z; cases z
  | _ + 4, ⟨dx, xs, ds, h1, _⟩ => rw [h1] at z; cases z
/-- a list or dict written: the tables tell as before -/
theorem tabN_write {H : Hp} {l : Addr} {o ob : HO} (h : H l = some o) (n : ∀ ps, o ≠ .tbl ps) (x : ∀ φ, o ≠ .ext φ) (t : TabsJ H) : TabsJ (upd H l ob) := fun p hp => by
  obtain ⟨ps, h1, h2, h3⟩ := t p hp
  refine ⟨ps, ?_, h2, fun pos cv f => ?_⟩
  · rw [upd_ne fun z => ?_]
    · exact h1
    · rw [z, h] at h1
      exact n _ (Option.some.inj h1)
  · obtain ⟨c, e1, e2⟩ := h3 pos cv f
    refine ⟨c, e1, ?_⟩
    rw [upd_ne fun z => ?_]
    · exact e2
    · rw [z, h] at e2
      exact x _ (Option.some.inj e2)
/-- a list that was not there first, written -/
theorem ExT.wrote {H G : Hp} {D : Addr} {xs : List V} {ob : HO} (e : ExT H G) (n : H D = none) (h : G D = some (.lst xs)) : ExT H (upd G D ob) := by
  have far : ∀ {a : Addr} {o : HO}, H a = some o → a ≠ D := fun {a o} q => ne_of_none q n
  exact ⟨⟨fun a o q t => (upd_ne (far q)).trans (e.at q t), fun a ps q => by
    rw [upd_ne (far q)]
    exact e.ex.tab a ps q, fun a o I hz q => by
    rw [upd_ne (far q)]
    exact e.ex.loud a o I hz q⟩, fun t => tabN_write h (fun ps z => by cases z) (fun φ z => by cases z) (e.tell t)⟩
theorem ExT.wroteG {H G : Hp} {D : Addr} {o ob : HO} (e : ExT H G) (n : H D = none) (h : G D = some o) (nt : ∀ ps, o ≠ .tbl ps) (x : ∀ φ, o ≠ .ext φ) : ExT H (upd G D ob) := by
  have far : ∀ {a : Addr} {o : HO}, H a = some o → a ≠ D := fun {a o} q => ne_of_none q n
  exact ⟨⟨fun a o q t => (upd_ne (far q)).trans (e.at q t), fun a ps q => by
    rw [upd_ne (far q)]
    exact e.ex.tab a ps q, fun a o I hz q => by
    rw [upd_ne (far q)]
    exact e.ex.loud a o I hz q⟩, fun t => tabN_write h nt x (e.tell t)⟩
/-- what kind of own slot is i? -/
def dictS (M : MM) (i : Nat) : Nat := dictSL M.ls i
theorem noPin {M : MM} {i c : Nat} (hi : i ∈ M.ls) (hd : dictS M i = c) (hc : c < 4) : M.gh.lookup i = none := by
  cases e : M.gh.lookup i with
  | none => rfl
  | some R =>
    have := (M.dis i hi R e).2
    unfold dictS at hd
    omega
/-- the slots σ and the heap H hold what the mirror env says; M the slots of lists that are written; H0, O0: the heap and the owned ahead of the def -/
structure Sl (K : PySem.W.Frag) (M : MM) (H0 : Hp) (O0 O : List Addr) (σ : St) (H : Hp) (env : En) : Prop where
  inv : M.J H0
  ext : ExT H0 H
  fresh : ∀ l ∈ O, l ∈ O0 ∨ H0 l = none
  sub : ∀ l ∈ O0, l ∈ O
  there : ∀ l ∈ O, ∃ o, H l = some o
  sh : ∀ i d, env[i]? = some (some d) → i ∉ M → ∃ v, σ[i]? = some (some v) ∧ Dp K (cut H O) v d
  quiet : ∀ l ∈ O, l ∉ O0 → Lz.z l = none
  gho : ∀ i R d, M.gh.lookup i = some R → env[i]? = some (some d) → ∃ v, σ[i]? = some (some v) ∧ R (cut H O) v d
  ow : ∀ i d, env[i]? = some (some d) → i ∈ M.ls → ∃ l o, σ[i]? = some (some (.ref l)) ∧ l ∈ O ∧ l ∉ O0 ∧ H l = some o ∧ OwD K (cut H O) (dictS M i) o d
  inj : ∀ i j d e l, i ∈ M.ls → j ∈ M.ls → env[i]? = some (some d) → env[j]? = some (some e) → σ[i]? = some (some (.ref l)) → σ[j]? = some (some (.ref l)) → i = j
  len : σ.length = env.length
section
variable {K : PySem.W.Frag} {M : MM} {H0 : Hp} {O0 O : List Addr} {σ : St} {H H' : Hp} {env : En}
theorem Sl.ex (s : Sl K M H0 O0 O σ H env) (e : ExT H H') : Sl K M H0 O0 O σ H' env :=
  ⟨s.inv, s.ext.trans e, s.fresh, s.sub, fun l h => by
    obtain ⟨o, q⟩ := s.there l h
    exact e.ther q, fun i d h n => by
    obtain ⟨v, h1, h2⟩ := s.sh i d h n
    exact ⟨v, h1, dp_ex (cut_mono e) h2⟩, s.quiet, fun i R d g h => by
    obtain ⟨v, h1, h2⟩ := s.gho i R d g h
    exact ⟨v, h1, M.ghm i R g _ _ v d (cut_mono e) h2⟩, fun i d h n => by
    obtain ⟨l, o, h1, h2, h3, h5, h6⟩ := s.ow i d h n
    exact ⟨l, o, h1, h2, h3, e.at h5 (h6.nt (s.quiet l h2 h3)), h6.ex (cut_mono e)⟩, s.inj, s.len⟩
/-- a new address is no loud one -/
theorem Sl.calm (s : Sl K M H0 O0 O σ H env) {p : Addr} (h : H p = none) : Lz.z p = none := by
  cases e : Lz.z p with
  | none => rfl
  | some I =>
    obtain ⟨t, z, _⟩ := M.lo H0 s.inv p I e
    obtain ⟨t2, y⟩ := s.ext.ther z
    rw [y] at h
    cases h
/-- an own list -/
theorem Sl.lst (s : Sl K M H0 O0 O σ H env) {i : Nat} {d : PyData} (h : env[i]? = some (some d)) (hi : i ∈ M.ls) (hn : dictS M i = 0) : ∃ l xs ds, σ[i]? = some (some (.ref l)) ∧ l ∈ O ∧ l ∉ O0 ∧ d = .list ds ∧ H l = some (.lst xs) ∧ DpAll K (cut H O) xs ds := by
  obtain ⟨l, o, h1, h2, h3, h5, h6⟩ := s.ow i d h hi
  rw [hn] at h6
  obtain ⟨xs, ds, rfl, h7, h8⟩ := h6
  exact ⟨l, xs, ds, h1, h2, h3, h7, h5, h8⟩
theorem Sl.new (s : Sl K M H0 O0 O σ H env) {p : Addr} (h : H p = none) : p ∉ O := fun z => by
  obtain ⟨o, q⟩ := s.there p z
  rw [q] at h
  cases h
/-- a shared slot is written -/
theorem Sl.set (s : Sl K M H0 O0 O σ H env) {i : Nat} {v : V} {d : PyData} (hi : i ∉ M) (h : Dp K (cut H O) v d) : Sl K M H0 O0 O (σ.set i (some v)) H (env.set i (some d)) := by
  refine ⟨s.inv, s.ext, s.fresh, s.sub, s.there, fun j e hj n => ?_, s.quiet, fun j R e g hj => ?_, fun j e hj n => ?_, fun j k e e' l hj hk h1 h2 h3 h4 => ?_, by rw [List.length_set, List.length_set]; exact s.len⟩
  · by_cases z : i = j
    · subst z
      have hl : i < env.length := by
        by_cases q : i < env.length
        · exact q
        · rw [List.getElem?_eq_none (by rw [List.length_set]; omega)] at hj
          cases hj
      rw [List.getElem?_set_self hl] at hj
      have e1 : d = e := Option.some.inj (Option.some.inj hj)
      subst e1
      exact ⟨v, by rw [List.getElem?_set_self (by rw [s.len]; exact hl)], h⟩
    · rw [List.getElem?_set_ne z] at hj ⊢
      exact s.sh j e hj n
  · have z : i ≠ j := fun q => by
      rw [← q, mmNo hi] at g
      cases g
    rw [List.getElem?_set_ne z] at hj ⊢
    exact s.gho j R e g hj
  · have z : i ≠ j := fun q => hi (.inl (q ▸ n))
    rw [List.getElem?_set_ne z] at hj ⊢
    exact s.ow j e hj n
  · have z : i ≠ j := fun q => hi (.inl (q ▸ hj))
    have y : i ≠ k := fun q => hi (.inl (q ▸ hk))
    rw [List.getElem?_set_ne z] at h1 h3
    rw [List.getElem?_set_ne y] at h2 h4
    exact s.inj j k e e' l hj hk h1 h2 h3 h4
/-- a slot is forgotten -/
theorem Sl.drop (s : Sl K M H0 O0 O σ H env) {i : Nat} {v : Option V} : Sl K M H0 O0 O (σ.set i v) H (env.set i none) := by
  have back : ∀ j e, (env.set i none)[j]? = some (some e) → i ≠ j ∧ env[j]? = some (some e) := fun j e hj => by
    by_cases z : i = j
    · subst z
      by_cases q : i < env.length
      · rw [List.getElem?_set_self q] at hj
        cases hj
      · rw [List.getElem?_eq_none (by rw [List.length_set]; omega)] at hj
        cases hj
    · rw [List.getElem?_set_ne z] at hj
      exact ⟨z, hj⟩
  refine ⟨s.inv, s.ext, s.fresh, s.sub, s.there, fun j e hj n => ?_, s.quiet, fun j R e g hj => ?_, fun j e hj n => ?_, fun j k e e' l hj hk h1 h2 h3 h4 => ?_, by rw [List.length_set, List.length_set]; exact s.len⟩
  · obtain ⟨z, hj⟩ := back j e hj
    rw [List.getElem?_set_ne z]
    exact s.sh j e hj n
  · obtain ⟨z, hj⟩ := back j e hj
    rw [List.getElem?_set_ne z]
    exact s.gho j R e g hj
  · obtain ⟨z, hj⟩ := back j e hj
    rw [List.getElem?_set_ne z]
    exact s.ow j e hj n
  · obtain ⟨z, h1⟩ := back j e h1
    obtain ⟨y, h2⟩ := back k e' h2
    rw [List.getElem?_set_ne z] at h3
    rw [List.getElem?_set_ne y] at h4
    exact s.inj j k e e' l hj hk h1 h2 h3 h4
theorem set_some {i j : Nat} {env : En} {x : Option PyData} {e : PyData} (h : (env.set i x)[j]? = some (some e)) : (i = j ∧ x = some e ∧ i < env.length) ∨ (i ≠ j ∧ env[j]? = some (some e)) := by
  by_cases z : i = j
  · subst z
    by_cases q : i < env.length
    · rw [List.getElem?_set_self q] at h
      exact .inl ⟨rfl, Option.some.inj h, q⟩
    · rw [List.getElem?_eq_none (by rw [List.length_set]; omega)] at h
      cases h
  · rw [List.getElem?_set_ne z] at h
    exact .inr ⟨z, h⟩
theorem cut_beside {p : Addr} (hx : ExT H H') (hp : H p = none) : Ex (cut H O) (cut H' (p :: O)) := by
  have out : ∀ a o, cut H O a = some o → H a = some o ∧ a ∉ p :: O := fun a o q => by
    by_cases z : a ∈ O
    · rw [cut_in z] at q
      cases q
    · rw [cut_out z] at q
      refine ⟨q, fun y => ?_⟩
      rcases List.mem_cons.mp y with y | y
      · rw [y, hp] at q
        cases q
      · exact z y
  refine ⟨fun a o q n => ?_, fun a ps q => ?_, fun a o I hz q => ?_⟩
  · obtain ⟨g1, g2⟩ := out a o q
    rw [cut_out g2]
    exact hx.at g1 n
  · obtain ⟨g1, g2⟩ := out a _ q
    rw [cut_out g2]
    exact hx.ex.tab a ps g1
  · obtain ⟨g1, g2⟩ := out a _ q
    rw [cut_out g2]
    exact hx.ex.loud a o I hz g1
/-- an address that is owned besides -/
theorem Sl.beside (s : Sl K M H0 O0 O σ H env) {D : Addr} (hD : H D = none) (x1 : Ex (cut H O) (cut H' (D :: O))) (x2 : ExT H H') (x3 : ∃ o, H' D = some o) : Sl K M H0 O0 (D :: O) σ H' env := by
  have s2 := s.ex x2
  refine ⟨s2.inv, s2.ext, fun l h => ?_, fun l h => List.mem_cons_of_mem _ (s2.sub l h), fun l h => ?_, fun i d h n => ?_, fun l h hn => ?_, fun i R d g h => ?_, fun i d h n => ?_, s2.inj, s2.len⟩
  · rcases List.mem_cons.mp h with z | z
    · subst z
      exact .inr (s.ext.free hD)
    · exact s2.fresh l z
  · rcases List.mem_cons.mp h with z | z
    · subst z
      exact x3
    · exact s2.there l z
  · obtain ⟨v, g1, g2⟩ := s.sh i d h n
    exact ⟨v, g1, dp_ex x1 g2⟩
  · rcases List.mem_cons.mp h with z | z
    · rw [z]
      exact s.calm hD
    · exact s.quiet l z hn
  · obtain ⟨v, g1, g2⟩ := s.gho i R d g h
    exact ⟨v, g1, M.ghm i R g _ _ v d x1 g2⟩
  · obtain ⟨l, o, g1, g2, g3, g5, g6⟩ := s.ow i d h n
    exact ⟨l, o, g1, List.mem_cons_of_mem _ g2, g3, x2.at g5 (g6.nt (s.quiet l g2 g3)), g6.ex x1⟩
/-- a new list becomes a slot's own -/
theorem Sl.ownG (s : Sl K M H0 O0 O σ H env) {i : Nat} {p : Addr} {ob : HO} {db : PyData} (hi : i ∈ M.ls) (pn : M.gh.lookup i = none) (hp : H p = none) (hx : ExT H H') (hl : H' p = some ob) (ha : OwD K (cut H' (p :: O)) (dictS M i) ob db) :
    Sl K M H0 O0 (p :: O) (σ.set i (some (.ref p))) H' (env.set i (some db)) := by
  have np := s.new hp
  have s' := s.ex hx
  have hcut : Ex (cut H O) (cut H' (p :: O)) := cut_beside hx hp
  have hp0 : H0 p = none := s.ext.free hp
  have npo : p ∉ O0 := fun z => np (s.sub p z)
  refine ⟨s.inv, s'.ext, fun l h => ?_, fun l h => List.mem_cons_of_mem _ (s.sub l h), fun l h => ?_, fun j e hj n => ?_, fun l h hn => ?_, fun j R e g hj => ?_, fun j e hj n => ?_, fun j k e e' l hj hk h1 h2 h3 h4 => ?_, by rw [List.length_set, List.length_set]; exact s.len⟩
  · rcases List.mem_cons.mp h with z | z
    · subst z
      exact .inr hp0
    · exact s.fresh l z
  · rcases List.mem_cons.mp h with z | z
    · subst z
      exact ⟨_, hl⟩
    · exact s'.there l z
  · rcases set_some hj with ⟨z, _, _⟩ | ⟨z, hj⟩
    · exact absurd (Or.inl (z ▸ hi)) n
    · rw [List.getElem?_set_ne z]
      obtain ⟨v, h1, h2⟩ := s.sh j e hj n
      exact ⟨v, h1, dp_ex hcut h2⟩
  · rcases List.mem_cons.mp h with z | z
    · rw [z]
      exact s.calm hp
    · exact s.quiet l z hn
  · rcases set_some hj with ⟨z, _, _⟩ | ⟨z, hj⟩
    · rw [← z, pn] at g
      cases g
    · rw [List.getElem?_set_ne z]
      obtain ⟨v, h1, h2⟩ := s.gho j R e g hj
      exact ⟨v, h1, M.ghm j R g _ _ v e hcut h2⟩
  · rcases set_some hj with ⟨z, e1, q⟩ | ⟨z, hj⟩
    · subst z
      cases e1
      exact ⟨p, ob, List.getElem?_set_self (by rw [s.len]; exact q), List.mem_cons_self, npo, hl, ha⟩
    · rw [List.getElem?_set_ne z]
      obtain ⟨l, o, h1, h2, h3, h5, h6⟩ := s.ow j e hj n
      exact ⟨l, o, h1, List.mem_cons_of_mem _ h2, h3, hx.at h5 (h6.nt (s.quiet l h2 h3)), h6.ex hcut⟩
  · have other : ∀ a b, i ≠ a → a ∈ M.ls → env[a]? = some (some b) → σ[a]? ≠ some (some (.ref p)) := fun a b _ ham hab q => by
      obtain ⟨l', _, g1, g2, _⟩ := s.ow a b hab ham
      rw [q] at g1
      have : p = l' := V.ref.inj (Option.some.inj (Option.some.inj g1))
      exact np (this ▸ g2)
    rcases set_some h1 with ⟨z, _, q⟩ | ⟨z, h1⟩
    · rcases set_some h2 with ⟨y, _, _⟩ | ⟨y, h2⟩
      · exact z.symm.trans y
      · subst z
        rw [List.getElem?_set_self (by rw [s.len]; exact q)] at h3
        have el : p = l := V.ref.inj (Option.some.inj (Option.some.inj h3))
        rw [List.getElem?_set_ne y, ← el] at h4
        exact absurd h4 (other k e' y hk h2)
    · rw [List.getElem?_set_ne z] at h3
      rcases set_some h2 with ⟨y, _, q⟩ | ⟨y, h2⟩
      · subst y
        rw [List.getElem?_set_self (by rw [s.len]; exact q)] at h4
        have el : p = l := V.ref.inj (Option.some.inj (Option.some.inj h4))
        rw [← el] at h3
        exact absurd h3 (other j e z hj h1)
      · rw [List.getElem?_set_ne y] at h4
        exact s.inj j k e e' l hj hk h1 h2 h3 h4
theorem cut_write {l : Addr} {o : HO} (h : l ∈ O) : cut (upd H l o) O = cut H O := by
  funext a
  by_cases z : a ∈ O
  · rw [cut_in z, cut_in z]
  · rw [cut_out z, cut_out z, upd_ne fun (y : a = l) => z (by rw [y]; exact h)]
theorem Sl.own (s : Sl K M H0 O0 O σ H env) {i : Nat} {p : Addr} {xs : List V} {ds : List PyData} (hi : i ∈ M.ls) (hd : dictS M i = 0) (hp : H p = none) (hx : ExT H H') (hl : H' p = some (.lst xs)) (ha : DpAll K (cut H' (p :: O)) xs ds) :
    Sl K M H0 O0 (p :: O) (σ.set i (some (.ref p))) H' (env.set i (some (.list ds))) := s.ownG hi (noPin hi hd (by decide)) hp hx hl (by
  rw [hd]
  exact ⟨xs, ds, rfl, rfl, ha⟩)
/-- an own object is written -/
theorem Sl.writeG (s : Sl K M H0 O0 O σ H env) {i : Nat} {l : Addr} {ob : HO} {d db : PyData} (hi : i ∈ M.ls) (he : env[i]? = some (some d)) (hs : σ[i]? = some (some (.ref l))) (hO : l ∈ O) (hn : l ∉ O0) (ha : OwD K (cut H O) (dictS M i) ob db) :
    Sl K M H0 O0 O σ (upd H l ob) (env.set i (some db)) := by
  have hc : cut (upd H l ob) O = cut H O := cut_write hO
  have h0 : H0 l = none := (s.fresh l hO).resolve_left hn
  have far : ∀ {a : Addr} {o : HO}, H0 a = some o → a ≠ l := fun {a o} q z => by
    rw [z, h0] at q
    cases q
  obtain ⟨l2, o2, w1, _, _, w5, w6⟩ := s.ow i d he hi
  have el : l = l2 := V.ref.inj (Option.some.inj (Option.some.inj (hs.symm.trans w1)))
  rw [← el] at w5
  refine ⟨s.inv, ⟨⟨fun a o q n => (upd_ne (far q)).trans (s.ext.at q n), fun a ps q => ?_, fun a o I hz q => ?_⟩, fun t => tabN_write w5 w6.notb w6.noext (s.ext.tell t)⟩, s.fresh, s.sub, fun a h => ?_, fun j e hj n => ?_, s.quiet, fun j R e g hj => ?_, fun j e hj n => ?_, fun j k e e' l' hj hk h1 h2 h3 h4 => ?_, by rw [List.length_set]; exact s.len⟩
  · rw [upd_ne (far q)]
    exact s.ext.ex.tab a ps q
  · rw [upd_ne (far q)]
    exact s.ext.ex.loud a o I hz q
  · by_cases z : a = l
    · subst z
      exact ⟨_, upd_same⟩
    · rw [upd_ne z]
      exact s.there a h
  · rcases set_some hj with ⟨z, _, _⟩ | ⟨z, hj⟩
    · exact absurd (Or.inl (z ▸ hi)) n
    · rw [hc]
      exact s.sh j e hj n
  · rcases set_some hj with ⟨z, _, _⟩ | ⟨z, hj⟩
    · obtain ⟨pl, rfl⟩ := (M.dis i hi R (z ▸ g)).1
      obtain ⟨v, g1, g2⟩ := s.gho j _ d g (z ▸ he)
      exact ⟨v, g1, g2⟩
    · rw [hc]
      exact s.gho j R e g hj
  · rcases set_some hj with ⟨z, e1, q⟩ | ⟨z, hj⟩
    · subst z
      cases e1
      exact ⟨l, ob, hs, hO, hn, upd_same, by rw [hc]; exact ha⟩
    · obtain ⟨l', o', g1, g2, g3, g5, g6⟩ := s.ow j e hj n
      refine ⟨l', o', g1, g2, g3, ?_, by rw [hc]; exact g6⟩
      rw [upd_ne fun (y : l' = l) => z (s.inj i j d e l hi n he hj hs (by rw [← y]; exact g1))]
      exact g5
  · have up : ∀ a b, (env.set i (some db))[a]? = some (some b) → ∃ b', env[a]? = some (some b') := fun a b q => by
      rcases set_some q with ⟨z, _, _⟩ | ⟨z, q⟩
      · subst z
        exact ⟨d, he⟩
      · exact ⟨b, q⟩
    obtain ⟨b1, h1⟩ := up j e h1
    obtain ⟨b2, h2⟩ := up k e' h2
    exact s.inj j k b1 b2 l' hj hk h1 h2 h3 h4
/-- an own list is written -/
theorem Sl.write (s : Sl K M H0 O0 O σ H env) {i : Nat} {l : Addr} {xs : List V} {d : PyData} {ds : List PyData} (hi : i ∈ M.ls) (hd : dictS M i = 0) (he : env[i]? = some (some d)) (hs : σ[i]? = some (some (.ref l))) (hO : l ∈ O) (hn : l ∉ O0) (ha : DpAll K (cut H O) xs ds) :
    Sl K M H0 O0 O σ (upd H l (.lst xs)) (env.set i (some (.list ds))) := s.writeG hi he hs hO hn (by
  rw [hd]
  exact ⟨xs, ds, rfl, rfl, ha⟩)
end
/-- an expression's reading gives what its mirror says, outside the owned -/
def Snd (K : PySem.W.Frag) (M : MM) (t : TE) (m : En → Option PyData) : Prop :=
  ∀ H0 O0 O σ H env d, Sl K M H0 O0 O σ H env → m env = some d → ∀ Q : VK, (∀ v H2, ExT H H2 → Dp K (cut H2 O) v d → Q v H2) → t σ H Q
/-- .. or an own list itself -/
def SndQ (K : PySem.W.Frag) (M : MM) (t : TE) (m : En → Option PyData) : Prop :=
  ∀ H0 O0 O σ H env d, Sl K M H0 O0 O σ H env → m env = some d → ∀ Q : VK, (∀ v H2, ExT H H2 → Dq K H2 O v d → Q v H2) → t σ H Q
def SndT (K : PySem.W.Frag) (M : MM) (t : TT) (m : En → Option Bool) : Prop :=
  ∀ H0 O0 O σ H env b, Sl K M H0 O0 O σ H env → m env = some b → ∀ Q : Bool → Hp → Prop, (∀ H2, ExT H H2 → Q b H2) → t σ H Q
/-- arguments; those that may be own lists -/
def SndA (K : PySem.W.Frag) (M : MM) (t : TA) (m : En → Option (List PyData)) : Prop :=
  ∀ H0 O0 O σ H env ds, Sl K M H0 O0 O σ H env → m env = some ds → ∀ Q : List V → Hp → Prop, (∀ vs H2, ExT H H2 → DpAll K (cut H2 O) vs ds → Q vs H2) → t σ H Q
/-- how a block goes on -/
inductive Fl where
  | nx (env : En) | rt (d : PyData) | bk (env : En) | ct (env : En)
def Cont (K : PySem.W.Frag) (M : MM) (H0 : Hp) (O0 O : List Addr) (H : Hp) (D : Ends) : Fl → Prop
  | .nx env => ∀ σ' H' O', Sl K M H0 O0 O' σ' H' env → Ex (cut H O) (cut H' O') → D.nx σ' H'
  | .rt d => ∀ v H', ExT H0 H' → Dp K (cut H' O0) v d → D.rt v H'
  | .bk env => ∀ σ' H' O', Sl K M H0 O0 O' σ' H' env → Ex (cut H O) (cut H' O') → D.bk σ' H'
  | .ct env => ∀ σ' H' O', Sl K M H0 O0 O' σ' H' env → Ex (cut H O) (cut H' O') → D.ct σ' H'
def SndS (K : PySem.W.Frag) (M : MM) (t : TS) (m : En → Option Fl) : Prop :=
  ∀ H0 O0 O σ H env fl D, Sl K M H0 O0 O σ H env → m env = some fl → Cont K M H0 O0 O H D fl → t D σ H
/-- targets: the value, what the slots are then -/
def SndG (K : PySem.W.Frag) (M : MM) (g : TG) (b : PyData → En → Option En) : Prop :=
  ∀ H0 O0 O σ H env d env' v, Sl K M H0 O0 O σ H env → Dp K (cut H O) v d → b d env = some env' → ∀ Q : St → Hp → Prop, (∀ σ', Sl K M H0 O0 O σ' H env' → Q σ' H) → g v σ H Q
end Rv
namespace Rv
open PySem L2 PySem.Spec PyProof.Rows
variable [Lz]
structure MD {ι : Type} (X : ι → Cx) (K : PySem.W.Frag) (M : MM) (e : Expr) (t : TE) (m : En → Option PyData) : Prop where
  pe : ∀ i, PE (X i) e t
  sd : Snd K M t m
structure MQ {ι : Type} (X : ι → Cx) (K : PySem.W.Frag) (M : MM) (e : Expr) (t : TE) (m : En → Option PyData) : Prop where
  pe : ∀ i, PE (X i) e t
  sd : SndQ K M t m
structure MT {ι : Type} (X : ι → Cx) (K : PySem.W.Frag) (M : MM) (e : Expr) (t : TT) (m : En → Option Bool) : Prop where
  pt : ∀ i, PT (X i) e t
  sd : SndT K M t m
structure MA {ι : Type} (X : ι → Cx) (K : PySem.W.Frag) (M : MM) (es : List Expr) (t : TA) (m : En → Option (List PyData)) : Prop where
  pa : ∀ i, PA (X i) es t
  sd : SndA K M t m
/-- what every context of a family has -/
structure Fam {ι : Type} (X : ι → Cx) (K : PySem.W.Frag) (N : List Str) (k : Nat) : Prop where
  hK : ∀ i, (X i).K = K
  calm : ∀ i, (X i).calm = true
  room : ∀ i, Room k (X i).A
  hN : ∀ i, (X i).N = N
  nd : N.Nodup
theorem Fam.u65 {ι : Type} {X : ι → Cx} {K : PySem.W.Frag} {N : List Str} {k : Nat} (F : Fam X K N k) (i : ι) : (X i).A.units + 65 < cLine := by
  have := (F.room i).un
  omega
theorem Fam.u64 {ι : Type} {X : ι → Cx} {K : PySem.W.Frag} {N : List Str} {k : Nat} (F : Fam X K N k) (i : ι) : (X i).A.units + 64 < cLine := by
  have := (F.room i).un
  omega
section
variable {ι : Type} {X : ι → Cx} {K : PySem.W.Frag} {N : List Str} {k : Nat} {M : MM} {a b c e : Expr} {ta tb tc te : TE} {ma mb mc me : En → Option PyData} {pos : Pos}
theorem snd_q {t : TE} {m : En → Option PyData} (h : Snd K M t m) : SndQ K M t m := fun H0 O0 O σ H env d s hm Q q =>
  h H0 O0 O σ H env d s hm Q fun v H2 e hv => q v H2 e (.inl hv)
theorem q_of (h : MD X K M e te me) : MQ X K M e te me := ⟨h.pe, snd_q h.sd⟩
def mVar (i : Nat) : En → Option PyData := fun env => (env[i]?).join
theorem join_some {α : Type} {x : Option (Option α)} {a : α} (h : x.join = some a) : x = some (some a) := by
  cases x with
  | none => cases h
  | some y =>
    cases y with
    | none => cases h
    | some z =>
      have : z = a := Option.some.inj h
      rw [this]
theorem d_var (i : Nat) {x : Str} (hi : i ∉ M := by first | decide | exact mmOut rfl) (hp : ∀ j, PE (X j) (.Name x pos) (tVar i) := by exact fun _ => pv _) : MD X K M (.Name x pos) (tVar i) (mVar i) :=
  ⟨hp, fun H0 O0 O σ H env d s hm Q q => by
    obtain ⟨v, h1, h2⟩ := s.sh i d (join_some hm) hi
    exact ⟨v, h1, q v H (ExT.refl H) h2⟩⟩
theorem q_var (i : Nat) {x : Str} (hi : i ∈ M.ls := by first | decide | exact mmIn rfl) (hd : dictS M i = 0 := by first | decide | rfl) (hp : ∀ j, PE (X j) (.Name x pos) (tVar i) := by exact fun _ => pv _) : MQ X K M (.Name x pos) (tVar i) (mVar i) :=
  ⟨hp, fun H0 O0 O σ H env d s hm Q q => by
    obtain ⟨l, xs, ds, h1, h2, h3, h4, h5, h6⟩ := s.lst (join_some hm) hi hd
    exact ⟨_, h1, q _ H (ExT.refl H) (.inr ⟨l, xs, ds, rfl, h5, h4, h6⟩)⟩⟩
def mC (d : PyData) : En → Option PyData := fun _ => some d
theorem snd_c {v : V} {d : PyData} (h : ∀ H, Dp K H v d) : Snd K M (tC v) (mC d) := fun H0 O0 O σ H env d' s hm Q q => by
  have e : d = d' := Option.some.inj hm
  subst e
  exact q v H (ExT.refl H) (h _)
theorem d_int {i : Int} {j : Nat} : MD X K M (.Constant (.int i) j pos) (tC (.int i)) (mC (.int i)) := ⟨fun _ => pe_int, snd_c fun _ => .int i⟩
theorem d_str {x : Str} {j : Nat} : MD X K M (.Constant (.str x) j pos) (tC (.str x)) (mC (.str x)) := ⟨fun _ => pe_str, snd_c fun _ => .str x⟩
theorem d_bl {x : Bool} {j : Nat} : MD X K M (.Constant (.bool x) j pos) (tC (.bl x)) (mC (.bool x)) := ⟨fun _ => pe_bl, snd_c fun _ => .bl x⟩
theorem d_non {j : Nat} : MD X K M (.Constant .none j pos) (tC .non) (mC .none) := ⟨fun _ => pe_non, snd_c fun _ => .non⟩
/-- a module's own constant, data that stand in the written part -/
theorem d_glob {x : Str} {v : V} {d : PyData} (hd : ∀ H, Dp K H v d) (hp : ∀ j, PE (X j) (.Name x pos) (tC v)) : MD X K M (.Name x pos) (tC v) (mC d) := ⟨hp, snd_c hd⟩
def OpD (K : PySem.W.Frag) (r : R2) (f : PyData → PyData → Option PyData) : Prop :=
  ∀ (H : Hp) (O : List Addr) x y d1 d2 d, (∀ l ∈ O, ∃ o, H l = some o) → Dq K H O x d1 → Dq K H O y d2 → f d1 d2 = some d → ∀ Q : VK, (∀ v H2, ExT H H2 → Dp K (cut H2 O) v d → Q v H2) → r x y H Q
def mBin (f : PyData → PyData → Option PyData) (ma mb : En → Option PyData) : En → Option PyData := fun env => (ma env).bind fun a => (mb env).bind fun b => f a b
theorem bind2 {α β γ : Type} {x : Option α} {y : Option β} {f : α → β → Option γ} {c : γ} (h : (x.bind fun a => y.bind fun b => f a b) = some c) : ∃ a b, x = some a ∧ y = some b ∧ f a b = some c := by
  cases x with
  | none => cases h
  | some a =>
    cases y with
    | none => cases h
    | some b => exact ⟨a, b, rfl, rfl, h⟩
theorem snd_op {r : R2} {f : PyData → PyData → Option PyData} (hf : OpD K r f) (ha : SndQ K M ta ma) (hb : SndQ K M tb mb) : Snd K M (tOp r ta tb) (mBin f ma mb) := fun H0 O0 O σ H env d s hm Q q => by
  obtain ⟨da, db, h1, h2, h3⟩ := bind2 hm
  refine ha H0 O0 O σ H env da s h1 _ fun x H1 e1 hx => ?_
  refine hb H0 O0 O σ H1 env db (s.ex e1) h2 _ fun y H2 e2 hy => ?_
  exact hf H2 O x y da db d ((s.ex e1).ex e2).there (hx.ex e2) hy h3 Q fun v H3 e3 hv => q v H3 ((e1.trans e2).trans e3) hv
theorem d_op {r : R2} {op : Operator} {f : PyData → PyData → Option PyData} (ho : ∀ i, OpR (X i) (binaryOp op) r) (hf : OpD K r f) (ha : MQ X K M a ta ma) (hb : MQ X K M b tb mb) : MD X K M (.BinOp a op b pos) (tOp r ta tb) (mBin f ma mb) :=
  ⟨fun i => pe_op (ho i) (ha.pe i) (hb.pe i), snd_op hf ha.sd hb.sd⟩
theorem d_cmp {r : R2} {op : CmpOp} {f : PyData → PyData → Option PyData} (ho : ∀ i, OpR (X i) (compareOp op) r) (hf : OpD K r f) (ha : MQ X K M a ta ma) (hb : MQ X K M b tb mb) (hm : behindInMarks op b = false := by first | exact nomark _ | rfl) : MD X K M (.Compare a [op] [b] pos) (tOp r ta tb) (mBin f ma mb) :=
  ⟨fun i => pe_cmpR (ho i) (ha.pe i) (hb.pe i) hm, snd_op hf ha.sd hb.sd⟩
theorem d_ix {r : R2} {f : PyData → PyData → Option PyData} (ho : ∀ i, IxR (X i) r) (hf : OpD K r f) (ha : MQ X K M a ta ma) (hb : MQ X K M b tb mb) (hp : PlainIx b := by exact fun _ _ => rfl) : MD X K M (.Subscript a b pos) (tOp r ta tb) (mBin f ma mb) :=
  ⟨fun i => pe_ix (ho i) (ha.pe i) (hb.pe i) hp, snd_op hf ha.sd hb.sd⟩
end
end Rv
namespace Rv
open PySem L2 PySem.Spec PyProof.Rows
variable [Lz]
def rCatS (K : PySem.W.Frag) : R2 := fun x y H Q => ∃ l b xs zs, x = .ref l ∧ y = .ref b ∧ SqL K H l xs ∧ SqL K H b zs ∧ xs.length + zs.length ≤ sizeLine ∧ ∀ p, H p = none → Q (.ref p) (upd H p (.lst (xs ++ zs)))
theorem op_catS {X : Cx} : OpR X (binaryOp .Add) (rCatS X.K) := fun _ st _ _ _ _ _ _ _ inv rx ry ⟨p, q, xs, ys, ex, ey, hp, hq, small, wish⟩ => by
  subst ex ey
  obtain rfl := rx
  obtain rfl := ry
  obtain ⟨us, r1, ⟨⟨k1, d1, c1, sl1⟩, n1, at1, isl1, _, dat1⟩, _⟩ := inv.list hp
  obtain ⟨ws, r2, ⟨⟨k2, d2, c2, sl2⟩, n2, at2, isl2, _, dat2⟩, _⟩ := inv.list hq
  obtain rfl : k1 = .type "list" := isl1
  obtain rfl : k2 = .type "list" := isl2
  obtain rfl : c1 = .seq us.toArray n1 := dat1
  obtain rfl : c2 = .seq ws.toArray n2 := dat2
  have fits : us.toArray.size + ws.toArray.size ≤ sizeLine := by
    simp only [List.size_toArray, ← r1.length, ← r2.length]
    exact small
  have made := list_addW p q us.toArray ws.toArray n1 n2 d1 d2 sl1 sl2 fits
  refine concat_meets ⟨_, at1, rfl⟩ ⟨_, at2, rfl⟩ noFill_list_add seq_list_add PySem.F.slot_list_add PySem.F.entry_list_add (PySem.F.args_list_add_2 _ _) made ⟨at1, at2, ?_⟩
  simp only [List.append_toArray]
  have joined := inv.lnew (t' := st.toks) (r1.append r2) (by simp only [List.length_append]; exact small)
  exact ⟨.ref _, _, joined, rfl, wish _ inv.fresh⟩
section
variable {K : PySem.W.Frag}
def dAdd : PyData → PyData → Option PyData
  | .int i, .int j => some (.int (i + j))
  | .str x, .str y => if x.length + y.length ≤ sizeLine then some (.str (x ++ y)) else none
  | .list xs, .list ys => if xs.length + ys.length ≤ sizeLine then some (.list (xs ++ ys)) else none
  | .tuple xs, .tuple ys => if xs.length + ys.length ≤ sizeLine then some (.tuple (xs ++ ys)) else none
  | _, _ => none
def rAddI : R2 := rI0 fun i j => .int (i + j)
def rAddS : R2 := fun x y H Q => ∃ i j, x = .str i ∧ y = .str j ∧ i.length + j.length ≤ sizeLine ∧ Q (.str (i ++ j)) H
def rAdds (K : PySem.W.Frag) : R2 := fun x y H Q => rAddI x y H Q ∨ rAddS x y H Q ∨ rCatS K x y H Q ∨ rCatA K x y H Q
theorem op_adds {X : Cx} (hK : X.K = K) : OpR X (binaryOp .Add) (rAdds K) := by
  subst hK
  exact OpR.or op_add (OpR.or op_add_str (OpR.or op_catS op_catA))
theorem new_list {H : Hp} {O : List Addr} {xs : List V} {ds : List PyData} {p : Addr} (ht : ∀ l ∈ O, ∃ o, H l = some o) (hp : H p = none) (h : DpAll K (cut H O) xs ds) : Dp K (cut (upd H p (.lst xs)) O) (.ref p) (.list ds) :=
  .lst (.inl (.inl (cut_new ht hp))) (dpAll_ex (cut_mono (ExT.new hp)) h)
theorem new_tup {H : Hp} {O : List Addr} {xs : List V} {ds : List PyData} {p : Addr} (ht : ∀ l ∈ O, ∃ o, H l = some o) (hp : H p = none) (h : DpAll K (cut H O) xs ds) : Dp K (cut (upd H p (.tup xs)) O) (.ref p) (.tuple ds) :=
  .tup (.inl (.inl (cut_new ht hp))) (dpAll_ex (cut_mono (ExT.new hp)) h)
theorem ite_some {c : Prop} [Decidable c] {α : Type} {a b : α} (h : (if c then some a else none) = some b) : c ∧ a = b := by
  by_cases z : c
  · rw [if_pos z] at h
    exact ⟨z, Option.some.inj h⟩
  · rw [if_neg z] at h
    cases h
theorem opd_add : OpD K (rAdds K) dAdd := fun H O x y d1 d2 d ht h1 h2 hf Q q => by
  cases d1 with
  | int i =>
    cases d2 with
    | int j =>
      cases hf
      exact .inl ⟨i, j, h1.int, h2.int, q _ H (ExT.refl H) (.int _)⟩
    | _ => cases hf
  | str i =>
    cases d2 with
    | str j =>
      obtain ⟨hz, e⟩ := ite_some hf
      subst e
      exact .inr (.inl ⟨i, j, h1.str, h2.str, hz, q _ H (ExT.refl H) (.str _)⟩)
    | _ => cases hf
  | list xs =>
    cases d2 with
    | list ys =>
      obtain ⟨hz, e⟩ := ite_some hf
      subst e
      obtain ⟨a, vs, rfl, s1, a1⟩ := h1.list
      obtain ⟨b, ws, rfl, s2, a2⟩ := h2.list
      refine .inr (.inr (.inl ⟨a, b, vs, ws, rfl, rfl, s1, s2, by rw [dpAll_len a1, dpAll_len a2]; exact hz, fun p hp => q _ _ (ExT.new hp) ?_⟩))
      exact new_list ht hp (dpAll_app a1 a2)
    | _ => cases hf
  | tuple xs =>
    cases d2 with
    | tuple ys =>
      obtain ⟨hz, e⟩ := ite_some hf
      subst e
      obtain ⟨a, vs, rfl, s1, a1, c1⟩ := h1.tuple
      obtain ⟨b, ws, rfl, s2, a2, c2⟩ := h2.tuple
      refine .inr (.inr (.inr ⟨a, b, vs, ws, rfl, rfl, s1, s2, by rw [dpAll_len a1, dpAll_len a2]; exact hz, fun hn => ?_, fun hn hm => ?_, fun _ _ p hp => q _ _ (ExT.new hp) ?_⟩))
      · subst hn
        cases a1
        exact q _ H (ExT.refl H) (.tup c2 a2)
      · subst hm
        cases a2
        rw [List.append_nil] at q
        exact q _ H (ExT.refl H) (.tup c1 a1)
      · exact new_tup ht hp (dpAll_app a1 a2)
    | _ => cases hf
  | _ => cases hf
def dI (C : Int → Int → Prop) [∀ i j, Decidable (C i j)] (g : Int → Int → PyData) : PyData → PyData → Option PyData
  | .int i, .int j => if C i j then some (g i j) else none
  | _, _ => none
theorem opd_I {C : Int → Int → Prop} [∀ i j, Decidable (C i j)] {g : Int → Int → V} {g' : Int → Int → PyData} (hg : ∀ i j H, Dp K H (g i j) (g' i j)) : OpD K (rI C g) (dI C g') := fun H O x y d1 d2 d ht h1 h2 hf Q q => by
  cases d1 with
  | int i =>
    cases d2 with
    | int j =>
      obtain ⟨hc, e⟩ := ite_some hf
      subst e
      exact ⟨i, j, h1.int, h2.int, hc, q _ H (ExT.refl H) (hg i j _)⟩
    | _ => cases hf
  | _ => cases hf
def dI0 (g : Int → Int → PyData) : PyData → PyData → Option PyData
  | .int i, .int j => some (g i j)
  | _, _ => none
theorem opd_I0 {g : Int → Int → V} {g' : Int → Int → PyData} (hg : ∀ i j H, Dp K H (g i j) (g' i j)) : OpD K (rI0 g) (dI0 g') := fun H O x y d1 d2 d ht h1 h2 hf Q q => by
  cases d1 with
  | int i =>
    cases d2 with
    | int j =>
      cases hf
      exact ⟨i, j, h1.int, h2.int, q _ H (ExT.refl H) (hg i j _)⟩
    | _ => cases hf
  | _ => cases hf
def dSub := dI0 fun i j => .int (i - j)
theorem opd_sub : OpD K (rI0 fun i j => .int (i - j)) dSub := opd_I0 fun _ _ _ => .int _
instance (i j : Int) : Decidable (CMul i j) := by unfold CMul; infer_instance
instance (i j : Int) : Decidable (CMulW i j) := by unfold CMulW; infer_instance
instance (i j : Int) : Decidable (CDivW i j) := by unfold CDivW; infer_instance
instance (i j : Int) : Decidable (CPow i j) := by unfold CPow; infer_instance
def CMulA (i j : Int) : Prop := CMul i j ∨ CMulW i j
instance (i j : Int) : Decidable (CMulA i j) := by unfold CMulA; infer_instance
def rMulA : R2 := rI CMulA fun i j => .int (i * j)
theorem op_mulA {X : Cx} : OpR X (binaryOp .Mult) rMulA := fun pins s σ H x y v u Q I rx ry h => by
  obtain ⟨i, j, e1, e2, hc | hc, q⟩ := h
  · exact op_mul pins s σ H x y v u Q I rx ry ⟨i, j, e1, e2, hc, q⟩
  · exact op_mulW pins s σ H x y v u Q I rx ry ⟨i, j, e1, e2, hc, q⟩
def dMul := dI CMulA fun i j => .int (i * j)
theorem opd_mul : OpD K rMulA dMul := opd_I fun _ _ _ => .int _
def dDiv := dI CDivW fun i j => .int (i / j)
theorem opd_div : OpD K (rI CDivW fun i j => .int (i / j)) dDiv := opd_I fun _ _ _ => .int _
def dMod := dI (fun _ j => 0 < j) fun i j => .int (i % j)
theorem opd_mod : OpD K (rI (fun _ j => 0 < j) fun i j => .int (i % j)) dMod := opd_I fun _ _ _ => .int _
def dPow := dI CPow fun i j => .int (i ^ j.toNat)
theorem opd_pow : OpD K (rI CPow fun i j => .int (i ^ j.toNat)) dPow := opd_I fun _ _ _ => .int _
def dEq (a b : PyData) : Option PyData := if SeqAt.shaped a = true ∧ SeqAt.shaped b = true then some (.bool (PyData.eqv a b)) else none
def dNe (a b : PyData) : Option PyData := if SeqAt.shaped a = true ∧ SeqAt.shaped b = true then some (.bool (!PyData.eqv a b)) else none
theorem opd_eq : OpD K (rEqD K) dEq := fun H O x y d1 d2 d ht h1 h2 hf Q q => by
  obtain ⟨hc, e⟩ := ite_some hf
  subst e
  exact ⟨d1, d2, h1.dp, h2.dp, hc.1, hc.2, q _ H (ExT.refl H) (.bl _)⟩
theorem opd_ne : OpD K (rNeD K) dNe := fun H O x y d1 d2 d ht h1 h2 hf Q q => by
  obtain ⟨hc, e⟩ := ite_some hf
  subst e
  exact ⟨d1, d2, h1.dp, h2.dp, hc.1, hc.2, q _ H (ExT.refl H) (.bl _)⟩
theorem op_eqK {X : Cx} (hK : X.K = K) (hu : X.A.units + 64 < cLine) : OpR X (compareOp .Eq) (rEqD K) := by
  subst hK
  exact op_eqD hu
theorem op_neK {X : Cx} (hK : X.K = K) (hu : X.A.units + 64 < cLine) : OpR X (compareOp .NotEq) (rNeD K) := by
  subst hK
  exact op_neD hu
/-- a < b of alike data of any kind but None -/
def rLtD (K : PySem.W.Frag) : R2 := fun x y H Q => ∃ d e, Dp K H x d ∧ Dp K H y e ∧ PySem.W.alike d e = true ∧ d ≠ .none ∧ d.depth ≤ 64 ∧ Q (.bl (PySem.W.dataLt d e)) H
theorem op_ltD {X : Cx} (hu : X.A.units + 64 < cLine) : OpR X (compareOp .Lt) (rLtD X.K) := fun _ st _ H x y v u _ inv rx ry ⟨d1, d2, p1, p2, same, some_, flat, wish⟩ => by
  obtain ⟨as, reads1⟩ := Dp.reads inv d1 x v p1 rx
  obtain ⟨bs, reads2⟩ := Dp.reads inv d2 y u p2 ry
  have small : min d1.depth d2.depth ≤ d1.depth := Nat.min_le_left _ _
  exact PySem.W.rcLt_alike d1 d2 X.A st v u as bs reads1 reads2 same some_ (by omega) X.prog X.w X.xe _ ⟨.bl _, H, inv, rfl, wish⟩
theorem op_ltK {X : Cx} (hK : X.K = K) (hu : X.A.units + 64 < cLine) : OpR X (compareOp .Lt) (rLtD K) := by
  subst hK
  exact op_ltD hu
def dLt (a b : PyData) : Option PyData :=
  match a, b with
  | .int i, .int j => some (.bool (decide (i < j)))
  | .str x, .str y => some (.bool (decide (x.cps.toList < y.cps.toList)))
  | .tuple xs, .tuple ys => if PySem.W.alikeAll xs ys = true ∧ (PyData.tuple xs).depth ≤ 64 then some (.bool (PySem.W.dataLt (.tuple xs) (.tuple ys))) else none
  | _, _ => none
def rLtAll (K : PySem.W.Frag) : R2 := fun x y H Q => rI0 (fun i j => .bl (decide (i < j))) x y H Q ∨ (∃ i j, x = .str i ∧ y = .str j ∧ Q (.bl (decide (i.cps.toList < j.cps.toList))) H) ∨ rLtD K x y H Q
theorem op_ltAll {X : Cx} (hK : X.K = K) (hu : X.A.units + 64 < cLine) : OpR X (compareOp .Lt) (rLtAll K) := OpR.or op_lt (OpR.or op_lt_str (op_ltK hK hu))
theorem opd_lt : OpD K (rLtAll K) dLt := fun H O x y d1 d2 d ht h1 h2 hf Q q => by
  cases d1 with
  | int i =>
    cases d2 with
    | int j =>
      cases hf
      exact .inl ⟨i, j, h1.int, h2.int, q _ H (ExT.refl H) (.bl _)⟩
    | _ => cases hf
  | str i =>
    cases d2 with
    | str j =>
      cases hf
      exact .inr (.inl ⟨i, j, h1.str, h2.str, q _ H (ExT.refl H) (.bl _)⟩)
    | _ => cases hf
  | tuple xs =>
    cases d2 with
    | tuple ys =>
      obtain ⟨⟨ha, hz⟩, e⟩ := ite_some hf
      subst e
      exact .inr (.inr ⟨_, _, h1.dp, h2.dp, (by rw [PySem.W.alike]; exact ha), (fun z => by cases z), hz, q _ H (ExT.refl H) (.bl _)⟩)
    | _ => cases hf
  | _ => cases hf
def dLe := dI0 fun i j => .bool (decide (i ≤ j))
theorem opd_le : OpD K (rI0 fun i j => .bl (decide (i ≤ j))) dLe := opd_I0 fun _ _ _ => .bl _
def dGt := dI0 fun i j => .bool (decide (j < i))
theorem opd_gt : OpD K (rI0 fun i j => .bl (decide (j < i))) dGt := opd_I0 fun _ _ _ => .bl _
def dGe := dI0 fun i j => .bool (decide (j ≤ i))
theorem opd_ge : OpD K (rI0 fun i j => .bl (decide (j ≤ i))) dGe := opd_I0 fun _ _ _ => .bl _
def dIx (a b : PyData) : Option PyData :=
  match a, b with
  | .list xs, .int i => atI xs i
  | .tuple xs, .int i => atI xs i
  | .str x, .int i => if x.length ≤ sizeLine then (atI x.cps.toList i).map fun c => .str ⟨#[c]⟩ else none
  | _, _ => none
theorem ix_seqK {X : Cx} (hK : X.K = K) : IxR X (rIx K) := by
  subst hK
  exact ix_seq
theorem atI_rel {H : Hp} {xs : List V} {ds : List PyData} {i : Int} {d : PyData} (h : DpAll K H xs ds) (e : atI ds i = some d) : ∃ v, atI xs i = some v ∧ Dp K H v d := by
  unfold atI at e ⊢
  rw [dpAll_len h]
  cases hj : ixN ds.length i with
  | none =>
    rw [hj] at e
    cases e
  | some j =>
    rw [hj] at e
    exact dpAll_get' h e
theorem opd_ix : OpD K (rIx K) dIx := fun H O x y d1 d2 d ht h1 h2 hf Q q => by
  cases d1 with
  | list xs =>
    cases d2 with
    | int i =>
      obtain ⟨a, vs, rfl, s1, a1⟩ := h1.list
      obtain ⟨v, e, hv⟩ := atI_rel a1 hf
      exact .inl ⟨a, vs, i, v, rfl, h2.int, s1, e, q _ H (ExT.refl H) hv⟩
    | _ => cases hf
  | tuple xs =>
    cases d2 with
    | int i =>
      obtain ⟨a, vs, rfl, s1, a1, _⟩ := h1.tuple
      obtain ⟨v, e, hv⟩ := atI_rel a1 hf
      exact .inr (.inl ⟨a, vs, i, v, rfl, h2.int, s1, e, q _ H (ExT.refl H) hv⟩)
    | _ => cases hf
  | str x =>
    cases d2 with
    | int i =>
      have hf' : (if x.length ≤ sizeLine then (atI x.cps.toList i).map fun c => PyData.str ⟨#[c]⟩ else none) = some d := hf
      by_cases hz : x.length ≤ sizeLine
      · rw [if_pos hz] at hf'
        cases hc : atI x.cps.toList i with
        | none =>
          rw [hc] at hf'
          cases hf'
        | some c =>
          rw [hc] at hf'
          cases hf'
          exact .inr (.inr ⟨x, i, c, h1.str, h2.int, hz, hc, q _ H (ExT.refl H) (.str _)⟩)
      · rw [if_neg hz] at hf'
        cases hf'
    | _ => cases hf
  | _ => cases hf
end
end Rv
namespace Rv
open PySem L2 PySem.Spec PyProof.Rows
variable [Lz]
section
variable {ι : Type} {X : ι → Cx} {K : PySem.W.Frag} {N : List Str} {k : Nat} {M : MM} {a b c e : Expr} {ta tb tc te : TE} {ma mb mc me : En → Option PyData} {pos : Pos}
def cutD (xs : List PyData) (lo hi : Option Int) : List PyData := (xs.drop (HT.sIx xs.length 0 lo)).take (HT.sIx xs.length xs.length hi - HT.sIx xs.length 0 lo)
theorem dpAll_cut {H : Hp} {xs : List V} {ds : List PyData} (h : DpAll K H xs ds) (lo hi : Option Int) : DpAll K H (cutV xs lo hi) (cutD ds lo hi) := by
  unfold cutV cutD
  rw [dpAll_len h]
  exact dpAll_take _ (dpAll_drop _ h)
def dSl (d : PyData) (lo hi : Option Int) : Option PyData :=
  match d with
  | .list xs => some (.list (cutD xs lo hi))
  | .tuple xs => some (.tuple (cutD xs lo hi))
  | .str z => if z.length ≤ sizeLine then some (.str (cutS z lo hi)) else none
  | _ => none
def rSls (K : PySem.W.Frag) : V → Option Int → Option Int → Hp → VK → Prop := fun x lo hi H Q => rSlL K x lo hi H Q ∨ rSlA K x lo hi H Q ∨ rSlS x lo hi H Q
theorem sl_all {Y : Cx} (hK : Y.K = K) : SlR Y (rSls K) := by
  subst hK
  exact SlR.or sl_list (SlR.or sl_tupA sl_str)
def SndO (K : PySem.W.Frag) (M : MM) (t : TO) (m : En → Option (Option Int)) : Prop :=
  ∀ H0 O0 O σ H env o, Sl K M H0 O0 O σ H env → m env = some o → ∀ Q : Option Int → Hp → Prop, (∀ H2, ExT H H2 → Q o H2) → t σ H Q
structure MO {ι : Type} (X : ι → Cx) (K : PySem.W.Frag) (M : MM) (e : Option Expr) (t : TO) (m : En → Option (Option Int)) : Prop where
  po : ∀ i, PO (X i) e t
  sd : SndO K M t m
def mNoPart : En → Option (Option Int) := fun _ => some none
def mPart (m : En → Option PyData) : En → Option (Option Int) := fun env => (m env).bind fun d => match d with | .int i => some (some i) | _ => none
theorem o_none : MO X K M none tNoPart mNoPart := ⟨fun _ => po_none, fun H0 O0 O σ H env o s hm Q q => by
  cases hm
  exact q H (ExT.refl H)⟩
theorem o_some (h : MD X K M e te me) : MO X K M (some e) (tPart te) (mPart me) := ⟨fun i => po_some (h.pe i), fun H0 O0 O σ H env o s hm Q q => by
  unfold mPart at hm
  cases hd : me env with
  | none =>
    rw [hd] at hm
    cases hm
  | some d =>
    rw [hd] at hm
    cases d with
    | int i =>
      cases hm
      refine h.sd H0 O0 O σ H env (.int i) s hd _ fun v H2 e hv => ?_
      cases hv
      exact ⟨i, rfl, q H2 e⟩
    | _ => cases hm⟩
theorem bind1 {α β : Type} {x : Option α} {f : α → Option β} {c : β} (h : x.bind f = some c) : ∃ a, x = some a ∧ f a = some c := by
  cases x with
  | none => cases h
  | some a => exact ⟨a, rfl, h⟩
def mSl (m : En → Option PyData) (l h : En → Option (Option Int)) : En → Option PyData := fun env => (m env).bind fun d => (l env).bind fun lo => (h env).bind fun hi => dSl d lo hi
theorem d_sl (F : Fam X K N k) {lo hi : Option Expr} {p2 : Pos} {tl th : TO} {ml mh : En → Option (Option Int)} (ha : MQ X K M a ta ma) (hl : MO X K M lo tl ml) (hh : MO X K M hi th mh) : MD X K M (.Subscript a (.Slice lo hi none p2) pos) (tSl (rSls K) ta tl th) (mSl ma ml mh) :=
  ⟨fun i => pe_slice (sl_all (F.hK i)) (ha.pe i) (hl.po i) (hh.po i), fun H0 O0 O σ H env d s hm Q q => by
    obtain ⟨d1, h1, hm⟩ := bind1 hm
    obtain ⟨l, u, h2, h3, h4⟩ := bind2 hm
    · refine ha.sd H0 O0 O σ H env d1 s h1 _ fun x H1 e1 hx => ?_
      refine hl.sd H0 O0 O σ H1 env l (s.ex e1) h2 _ fun H2 e2 => ?_
      refine hh.sd H0 O0 O σ H2 env u ((s.ex e1).ex e2) h3 _ fun H3 e3 => ?_
      have s3 := ((s.ex e1).ex e2).ex e3
      have hx3 := (hx.ex e2).ex e3
      have e13 := (e1.trans e2).trans e3
      cases d1 with
      | list ds =>
        cases h4
        obtain ⟨p, vs, rfl, s1, a1⟩ := hx3.list
        exact .inl ⟨p, vs, rfl, s1, fun p' hp => q _ _ (e13.trans (ExT.new hp)) (new_list s3.there hp (dpAll_cut a1 _ _))⟩
      | tuple ds =>
        cases h4
        obtain ⟨p, vs, rfl, s1, a1, c1⟩ := hx3.tuple
        refine .inr (.inl ⟨p, vs, rfl, s1, fun hw => q _ _ e13 ?_, fun _ p' hp => q _ _ (e13.trans (ExT.new hp)) (new_tup s3.there hp (dpAll_cut a1 _ _))⟩)
        have ew : cutV vs l u = vs := by
          unfold cutV
          rw [hw.1, hw.2]
          simp
        have := dpAll_cut a1 l u
        rw [ew] at this
        exact .tup c1 this
      | str z =>
        obtain ⟨hz, e⟩ := ite_some h4
        subst e
        exact .inr (.inr ⟨z, hx3.str, hz, q _ _ e13 (.str _)⟩)
      | _ => cases h4⟩
def mNil : En → Option (List PyData) := fun _ => some []
def mCons (m : En → Option PyData) (ms : En → Option (List PyData)) : En → Option (List PyData) := fun env => (m env).bind fun d => (ms env).bind fun ds => some (d :: ds)
theorem a_nil : MA X K M [] tNil mNil := ⟨fun _ => pa_nil, fun H0 O0 O σ H env ds s hm Q q => by
  cases hm
  exact q [] H (ExT.refl H) .nil⟩
theorem a_cons {es : List Expr} {tr : TA} {mr : En → Option (List PyData)} (h : MD X K M e te me) (hr : MA X K M es tr mr) (hs : ∀ i, starEach (e :: es) (X i).env = (false, eval e (X i).env) :: starEach es (X i).env := by exact fun _ => rfl) : MA X K M (e :: es) (tCons te tr) (mCons me mr) :=
  ⟨fun i => pa_cons (h.pe i) (hr.pa i) (hs i), fun H0 O0 O σ H env ds s hm Q q => by
    obtain ⟨d, r, h1, h2, h3⟩ := bind2 hm
    cases h3
    refine h.sd H0 O0 O σ H env d s h1 _ fun x H1 e1 hx => ?_
    exact hr.sd H0 O0 O σ H1 env r (s.ex e1) h2 _ fun xs H2 e2 hxs => q _ H2 (e1.trans e2) (.cons (dp_ex (cut_mono e2) hx) hxs)⟩
inductive DqAll (K : PySem.W.Frag) (H : Hp) (O : List Addr) : List V → List PyData → Prop
  | nil : DqAll K H O [] []
  | cons {v : V} {vs : List V} {d : PyData} {ds : List PyData} : Dq K H O v d → DqAll K H O vs ds → DqAll K H O (v :: vs) (d :: ds)
structure MB {ι : Type} (X : ι → Cx) (K : PySem.W.Frag) (M : MM) (es : List Expr) (t : TA) (m : En → Option (List PyData)) : Prop where
  pa : ∀ i, PA (X i) es t
  sd : ∀ H0 O0 O σ H env ds, Sl K M H0 O0 O σ H env → m env = some ds → ∀ Q : List V → Hp → Prop, (∀ vs H2, ExT H H2 → DqAll K H2 O vs ds → Q vs H2) → t σ H Q
theorem b_nil : MB X K M [] tNil mNil := ⟨fun _ => pa_nil, fun H0 O0 O σ H env ds s hm Q q => by
  cases hm
  exact q [] H (ExT.refl H) .nil⟩
theorem b_cons {es : List Expr} {tr : TA} {mr : En → Option (List PyData)} (h : MQ X K M e te me) (hr : MB X K M es tr mr) (hs : ∀ i, starEach (e :: es) (X i).env = (false, eval e (X i).env) :: starEach es (X i).env := by exact fun _ => rfl) : MB X K M (e :: es) (tCons te tr) (mCons me mr) :=
  ⟨fun i => pa_cons (h.pe i) (hr.pa i) (hs i), fun H0 O0 O σ H env ds s hm Q q => by
    obtain ⟨d, r, h1, h2, h3⟩ := bind2 hm
    cases h3
    refine h.sd H0 O0 O σ H env d s h1 _ fun x H1 e1 hx => ?_
    exact hr.sd H0 O0 O σ H1 env r (s.ex e1) h2 _ fun xs H2 e2 hxs => q _ H2 (e1.trans e2) (.cons (hx.ex e2) hxs)⟩
def mTup (ms : En → Option (List PyData)) : En → Option PyData := fun env => (ms env).bind fun ds => if ds.length ≤ sizeLine then some (.tuple ds) else none
def mLst (ms : En → Option (List PyData)) : En → Option PyData := fun env => (ms env).bind fun ds => if ds.length ≤ sizeLine then some (.list ds) else none
theorem d_tup {es : List Expr} {x1 : Nat} {t : TA} {ms : En → Option (List PyData)} (h : MA X K M es t ms) : MD X K M (.Tuple es x1 pos) (tTup t) (mTup ms) := ⟨fun i => pe_tup (h.pa i), fun H0 O0 O σ H env d s hm Q q => by
  obtain ⟨ds, h1, h2⟩ := bind1 hm
  obtain ⟨hz, e⟩ := ite_some h2
  subst e
  exact h.sd H0 O0 O σ H env ds s h1 _ fun vs H1 e1 hv => ⟨by rw [dpAll_len hv]; exact hz, fun p hp => q _ _ (e1.trans (ExT.new hp)) (new_tup (s.ex e1).there hp hv)⟩⟩
theorem d_lst {es : List Expr} {t : TA} {ms : En → Option (List PyData)} (h : MA X K M es t ms) : MD X K M (.List es pos) (tLst t) (mLst ms) := ⟨fun i => pe_lst (h.pa i), fun H0 O0 O σ H env d s hm Q q => by
  obtain ⟨ds, h1, h2⟩ := bind1 hm
  obtain ⟨hz, e⟩ := ite_some h2
  subst e
  exact h.sd H0 O0 O σ H env ds s h1 _ fun vs H1 e1 hv => ⟨by rw [dpAll_len hv]; exact hz, fun p hp => q _ _ (e1.trans (ExT.new hp)) (new_list (s.ex e1).there hp hv)⟩⟩
/-- [a, ..] * n -/
def mRep (ms : En → Option (List PyData)) (mn : En → Option PyData) : En → Option PyData := fun env => (ms env).bind fun ds => (mn env).bind fun n => match n with
  | .int j => if ds.length ≤ sizeLine ∧ -(2 ^ 63) ≤ j ∧ j < 2 ^ 63 ∧ ds.length * j.toNat ≤ sizeLine then some (.list (List.replicate j.toNat ds).flatten) else none
  | _ => none
theorem d_rep {es : List Expr} {t : TA} {ms : En → Option (List PyData)} {p1 : Pos} (h : MA X K M es t ms) (hb : MD X K M b tb mb) : MD X K M (.BinOp (.List es p1) .Mult b pos) (tOp rRep (tLst t) tb) (mRep ms mb) := ⟨fun i => pe_op op_rep (pe_lst (h.pa i)) (hb.pe i), fun H0 O0 O σ H env d s hm Q q => by
  obtain ⟨ds, n, h1, h2, h3⟩ := bind2 hm
  cases n with
  | int j =>
    obtain ⟨⟨z0, z1, z2, z3⟩, e⟩ := ite_some h3
    subst e
    refine h.sd H0 O0 O σ H env ds s h1 _ fun vs H1 e1 hv => ⟨by rw [dpAll_len hv]; exact z0, fun p hp => ?_⟩
    have s1 := s.ex (e1.trans (ExT.new (thing := .lst vs) hp))
    refine hb.sd H0 O0 O σ _ env (.int j) s1 h2 _ fun y H2 e2 hy => ?_
    cases hy
    refine ⟨p, j, vs, rfl, rfl, e2.at upd_same, z1, z2, by rw [dpAll_len hv]; exact z3, fun p' hp' => q _ _ ((e1.trans (ExT.new hp)).trans (e2.trans (ExT.new hp'))) ?_⟩
    exact new_list (s1.ex e2).there hp' (dpAll_rep _ (dpAll_ex (cut_mono ((ExT.new hp).trans e2)) hv))
  | _ => cases h3⟩
def CrD (K : PySem.W.Frag) (r : List V → Hp → VK → Prop) (f : List PyData → Option PyData) : Prop :=
  ∀ (H : Hp) (O : List Addr) vs ds d, (∀ l ∈ O, ∃ o, H l = some o) → DqAll K H O vs ds → f ds = some d → ∀ Q : VK, (∀ v H2, ExT H H2 → Dp K (cut H2 O) v d → Q v H2) → r vs H Q
def mCB (f : List PyData → Option PyData) (ms : En → Option (List PyData)) : En → Option PyData := fun env => (ms env).bind f
theorem snd_cb {r : List V → Hp → VK → Prop} {f : List PyData → Option PyData} {es : List Expr} {t : TA} {ms : En → Option (List PyData)} (hf : CrD K r f) (h : MB X K M es t ms) : Snd K M (tCB r t) (mCB f ms) := fun H0 O0 O σ H env d s hm Q q => by
  obtain ⟨ds, h1, h2⟩ := bind1 hm
  exact h.sd H0 O0 O σ H env ds s h1 _ fun vs H1 e1 hv => hf H1 O vs ds d (s.ex e1).there hv h2 Q fun v H2 e2 hv => q v H2 (e1.trans e2) hv
theorem d_cb {id : String} {x : Str} {p : Pos} {es : List Expr} {r : List V → Hp → VK → Prop} {f : List PyData → Option PyData} {t : TA} {ms : En → Option (List PyData)} (hc : ∀ i, CallR (X i) (.builtin id) r) (hf : CrD K r f) (hm : ∀ i, (X i).mg x = none) (hv : bootBuiltins x = some (.builtin id)) (h : MB X K M (e :: es) t ms)
    (hg : ∀ i, Gl (X i) x := by exact fun _ => rfl) (hn : x ≠ "__name__" := by decide) (hdb : (x == ("__debug__" : Str)) = false := by decide) (he : ∀ i, starEach (e :: es) (X i).env = (false, eval e (X i).env) :: starEach es (X i).env := by exact fun _ => rfl) (hpl : ∀ i, (backTo pos (starEach es (X i).env)).any (·.1) = false := by exact fun _ => rfl) :
    MD X K M (.Call (.Name x p) (e :: es) [] pos) (tCB r t) (mCB f ms) := ⟨fun i => pe_callB (hc i) (hg i) (hm i) hv (h.pa i) hn hdb (he i) (hpl i), snd_cb hf h⟩
theorem d_ty {T : String} {x : Str} {p : Pos} {es : List Expr} {r : List V → Hp → VK → Prop} {f : List PyData → Option PyData} {t : TA} {ms : En → Option (List PyData)} (hc : ∀ i, CallR (X i) (.type T) r) (hf : CrD K r f) (hm : ∀ i, (X i).mg x = none) (hv : bootBuiltins x = some (.type T)) (h : MB X K M (e :: es) t ms)
    (hg : ∀ i, Gl (X i) x := by exact fun _ => rfl) (hn : x ≠ "__name__" := by decide) (hdb : (x == ("__debug__" : Str)) = false := by decide) (he : ∀ i, starEach (e :: es) (X i).env = (false, eval e (X i).env) :: starEach es (X i).env := by exact fun _ => rfl) (hpl : ∀ i, (backTo pos (starEach es (X i).env)).any (·.1) = false := by exact fun _ => rfl) :
    MD X K M (.Call (.Name x p) (e :: es) [] pos) (tCB r t) (mCB f ms) := ⟨fun i => pe_callTy (hc i) (hg i) (hm i) hv (h.pa i) hn hdb (he i) (hpl i), snd_cb hf h⟩
/-- a def's promise: it answers by f, the owned of its caller are nothing to it -/
def spD (K : PySem.W.Frag) (J : Hp → Prop) (n : Nat) (f : List PyData → Option PyData) : Sp := fun vs H Q _ => ∃ ds d O, J H ∧ vs.length = n ∧ (∀ l ∈ O, ∃ o, H l = some o) ∧ DpAll K (cut H O) vs ds ∧ f ds = some d ∧ ∀ v H2, ExT H H2 → Dp K (cut H2 O) v d → Q v H2
theorem d_call {j : Nat} {f : Addr} {fd : FuncData} {ps : List Str} {x : Str} {p : Pos} {es : List Expr} {fn : List PyData → Option PyData} {t : TA} {ms : En → Option (List PyData)} (G : ∀ i, FnOk (X i).prog (X i).w (X i).K (X i).mg (X i).base CX0 j f fd ps (spD K M.J ps.length fn)) (hr : ∀ i, Room j (X i).A)
    (hm : ∀ i, (X i).mg x = some (.ref f)) (hk : ∀ i, PySem.W.keepIn (X i).K (.ref f) = true) (hb : ∀ i, Binds (X i).K fd ps []) (h : MA X K M (e :: es) t ms) (hl : ∀ env ds, ms env = some ds → ds.length = ps.length)
    (hg : ∀ i, Gl (X i) x := by exact fun _ => rfl) (hdb : (x == ("__debug__" : Str)) = false := by decide) (he : ∀ i, starEach (e :: es) (X i).env = (false, eval e (X i).env) :: starEach es (X i).env := by exact fun _ => rfl) (hpl : ∀ i, (backTo pos (starEach es (X i).env)).any (·.1) = false := by exact fun _ => rfl) :
    MD X K M (.Call (.Name x p) (e :: es) [] pos) (tCall (spD K M.J ps.length fn) [] E0 t) (mCB fn ms) :=
  ⟨fun i => pe_call (G i) (hr i) (hg i) (hm i) (hk i) (hb i) .nil pass0 (h.pa i) hdb (he i) (hpl i), fun H0 O0 O σ H env d s hmm Q q => by
    obtain ⟨ds, h1, h2⟩ := bind1 hmm
    refine h.sd H0 O0 O σ H env ds s h1 _ fun vs H1 e1 hv => ?_
    refine ⟨ds, d, O, M.mono _ _ (s.ext.trans e1) s.inv, by rw [List.append_nil, dpAll_len hv]; exact hl env ds h1, (s.ex e1).there, by rw [List.append_nil]; exact hv, h2, fun v H2 e2 h3 => q v H2 (e1.trans e2) h3⟩⟩
def truD : PyData → Option Bool
  | .none => some false
  | .bool b => some b
  | .int i => some (i != 0)
  | .str x => if x.length ≤ sizeLine then some ((x.length : Int) != 0) else none
  | .list xs => some (!xs.isEmpty)
  | .tuple xs => some (!xs.isEmpty)
  | .dict _ => none
theorem empty_dp {H : Hp} {xs : List V} {ds : List PyData} (h : DpAll K H xs ds) : xs.isEmpty = ds.isEmpty := by
  cases h <;> rfl
theorem tru_dp {H : Hp} {v : V} {d : PyData} {b : Bool} (h : Dp K H v d) (hb : truD d = some b) : TruV K v H b := by
  cases h with
  | non => cases hb; rfl
  | bl x => cases hb; rfl
  | int i => cases hb; rfl
  | str x =>
    obtain ⟨hz, e⟩ := ite_some hb
    subst e
    exact ⟨hz, rfl⟩
  | lst hs ha =>
    cases hb
    exact .inl ⟨_, hs, by rw [empty_dp ha]⟩
  | tup hs ha =>
    cases hb
    exact .inr (.inl ⟨_, hs, by rw [empty_dp ha]⟩)
def mAnd (ma mb : En → Option PyData) : En → Option PyData := fun env => (ma env).bind fun d => (truD d).bind fun b => if b = true then mb env else some d
def mOr (ma mb : En → Option PyData) : En → Option PyData := fun env => (ma env).bind fun d => (truD d).bind fun b => if b = true then some d else mb env
theorem d_one {op : BoolOp} (h : MD X K M e te me) : MD X K M (.BoolOp op [e] pos) te me := ⟨fun i => pe_one (h.pe i), h.sd⟩
theorem d_and (F : Fam X K N k) {rest : List Expr} (ha : MD X K M a ta ma) (hb : MD X K M (.BoolOp .And (b :: rest) pos) tb mb) : MD X K M (.BoolOp .And (a :: b :: rest) pos) (tAndT K ta tb) (mAnd ma mb) := ⟨fun i => by
  have := pe_andT (ha.pe i) (hb.pe i)
  rw [F.hK i] at this
  exact this, fun H0 O0 O σ H env d s hm Q q => by
  obtain ⟨d1, h1, h2⟩ := bind1 hm
  obtain ⟨c, h3, h4⟩ := bind1 h2
  refine ha.sd H0 O0 O σ H env d1 s h1 _ fun v H1 e1 hv => ⟨c, tru_dp (dp_ex cut_ex hv) h3, ?_⟩
  cases c with
  | true =>
    rw [if_pos rfl] at h4 ⊢
    exact hb.sd H0 O0 O σ H1 env d (s.ex e1) h4 Q fun w H2 e2 hw => q w H2 (e1.trans e2) hw
  | false =>
    rw [if_neg Bool.false_ne_true] at h4 ⊢
    cases h4
    exact q v H1 e1 hv⟩
theorem d_or (F : Fam X K N k) {rest : List Expr} (ha : MD X K M a ta ma) (hb : MD X K M (.BoolOp .Or (b :: rest) pos) tb mb) : MD X K M (.BoolOp .Or (a :: b :: rest) pos) (tOrT K ta tb) (mOr ma mb) := ⟨fun i => by
  have := pe_orT (ha.pe i) (hb.pe i)
  rw [F.hK i] at this
  exact this, fun H0 O0 O σ H env d s hm Q q => by
  obtain ⟨d1, h1, h2⟩ := bind1 hm
  obtain ⟨c, h3, h4⟩ := bind1 h2
  refine ha.sd H0 O0 O σ H env d1 s h1 _ fun v H1 e1 hv => ⟨c, tru_dp (dp_ex cut_ex hv) h3, ?_⟩
  cases c with
  | true =>
    rw [if_pos rfl] at h4 ⊢
    cases h4
    exact q v H1 e1 hv
  | false =>
    rw [if_neg Bool.false_ne_true] at h4 ⊢
    exact hb.sd H0 O0 O σ H1 env d (s.ex e1) h4 Q fun w H2 e2 hw => q w H2 (e1.trans e2) hw⟩
def mTru (m : En → Option PyData) : En → Option Bool := fun env => (m env).bind truD
/-- a test by truth: anything that isn't and, or, not, a comparison -/
theorem t_tru (F : Fam X K N k) (h : MQ X K M e te me) (he : ∀ i whole, isTrue e (X i).env whole = (do let v ← whole; standAt e.pos; holding [v] (truthy v)) := by exact fun _ _ => rfl) : MT X K M e (fun σ H Q => te σ H fun x H' => ∃ k, TruV K x H' k ∧ Q k H') (mTru me) := ⟨fun i => by
  have := pt_truth (h.pe i) (he i)
  rw [F.hK i] at this
  exact this, fun H0 O0 O σ H env b s hm Q q => by
  obtain ⟨d, h1, h2⟩ := bind1 hm
  exact h.sd H0 O0 O σ H env d s h1 _ fun v H1 e1 hv => ⟨b, tru_dp hv.dp h2, q H1 e1⟩⟩
def mAndT (ma mb : En → Option Bool) : En → Option Bool := fun env => (ma env).bind fun b => if b = true then mb env else some false
def mOrT (ma mb : En → Option Bool) : En → Option Bool := fun env => (ma env).bind fun b => if b = true then some true else mb env
def mNotT (ma : En → Option Bool) : En → Option Bool := fun env => (ma env).bind fun b => some (!b)
structure MW {ι : Type} (X : ι → Cx) (K : PySem.W.Frag) (M : MM) (e : Expr) (t : TT) (m : En → Option Bool) : Prop where
  pw : ∀ i, PW (X i) e t
  sd : SndT K M t m
theorem w_pt {t : TT} {m : En → Option Bool} (h : MW X K M e t m) : MT X K M e t m := ⟨fun i => PW.pt (h.pw i), h.sd⟩
theorem w_and1 {t : TT} {m : En → Option Bool} (h : MT X K M e t m) : MW X K M (.BoolOp .And [e] pos) t m := ⟨fun i => pw_and1 (h.pt i), h.sd⟩
theorem w_or1 {t : TT} {m : En → Option Bool} (h : MT X K M e t m) : MW X K M (.BoolOp .Or [e] pos) t m := ⟨fun i => pw_or1 (h.pt i), h.sd⟩
theorem w_and {t u : TT} {m n : En → Option Bool} {rest : List Expr} (ha : MT X K M a t m) (hb : MW X K M (.BoolOp .And (b :: rest) pos) u n) : MW X K M (.BoolOp .And (a :: b :: rest) pos) (tAnd t u) (mAndT m n) := ⟨fun i => pw_and (ha.pt i) (hb.pw i), fun H0 O0 O σ H env c s hm Q q => by
  obtain ⟨d, h1, h2⟩ := bind1 hm
  refine ha.sd H0 O0 O σ H env d s h1 _ fun H1 e1 => ?_
  cases d with
  | true =>
    rw [if_pos rfl] at h2 ⊢
    exact hb.sd H0 O0 O σ H1 env c (s.ex e1) h2 Q fun H2 e2 => q H2 (e1.trans e2)
  | false =>
    rw [if_neg Bool.false_ne_true] at h2 ⊢
    cases h2
    exact q H1 e1⟩
theorem w_or {t u : TT} {m n : En → Option Bool} {rest : List Expr} (ha : MT X K M a t m) (hb : MW X K M (.BoolOp .Or (b :: rest) pos) u n) : MW X K M (.BoolOp .Or (a :: b :: rest) pos) (tOr t u) (mOrT m n) := ⟨fun i => pw_or (ha.pt i) (hb.pw i), fun H0 O0 O σ H env c s hm Q q => by
  obtain ⟨d, h1, h2⟩ := bind1 hm
  refine ha.sd H0 O0 O σ H env d s h1 _ fun H1 e1 => ?_
  cases d with
  | true =>
    rw [if_pos rfl] at h2 ⊢
    cases h2
    exact q H1 e1
  | false =>
    rw [if_neg Bool.false_ne_true] at h2 ⊢
    exact hb.sd H0 O0 O σ H1 env c (s.ex e1) h2 Q fun H2 e2 => q H2 (e1.trans e2)⟩
theorem t_not {t : TT} {m : En → Option Bool} (h : MT X K M e t m) : MT X K M (.UnaryOp .Not e pos) (tNot t) (mNotT m) := ⟨fun i => pt_not (h.pt i), fun H0 O0 O σ H env c s hm Q q => by
  obtain ⟨d, h1, h2⟩ := bind1 hm
  cases h2
  exact h.sd H0 O0 O σ H env d s h1 _ fun H1 e1 => q H1 e1⟩
def mIf (mt : En → Option Bool) (ma mb : En → Option PyData) : En → Option PyData := fun env => (mt env).bind fun b => if b = true then ma env else mb env
theorem d_if {t : TT} {m : En → Option Bool} (hc : MT X K M c t m) (ha : MD X K M a ta ma) (hb : MD X K M b tb mb) : MD X K M (.IfExp c a b pos) (tIf t ta tb) (mIf m ma mb) := ⟨fun i => pe_ifExp (hc.pt i) (ha.pe i) (hb.pe i), fun H0 O0 O σ H env d s hm Q q => by
  obtain ⟨x, h1, h2⟩ := bind1 hm
  refine hc.sd H0 O0 O σ H env x s h1 _ fun H1 e1 => ?_
  cases x with
  | true =>
    rw [if_pos rfl] at h2 ⊢
    exact ha.sd H0 O0 O σ H1 env d (s.ex e1) h2 Q fun v H2 e2 hv => q v H2 (e1.trans e2) hv
  | false =>
    rw [if_neg Bool.false_ne_true] at h2 ⊢
    exact hb.sd H0 O0 O σ H1 env d (s.ex e1) h2 Q fun v H2 e2 hv => q v H2 (e1.trans e2) hv⟩
/-- a < b < c -/
def mChain (f g : PyData → PyData → Option PyData) (ma mb mc : En → Option PyData) : En → Option PyData := fun env => (ma env).bind fun a => (mb env).bind fun b => (f a b).bind fun z => match z with
  | .bool true => (mc env).bind fun c => g b c
  | .bool false => some (.bool false)
  | _ => none
theorem d_chain {r r' : R2} {op op' : CmpOp} {f g : PyData → PyData → Option PyData} (ho : ∀ i, OpR (X i) (compareOp op) r) (hf : OpD K r f) (ho' : ∀ i, OpR (X i) (compareOp op') r') (hg : OpD K r' g) (ha : MQ X K M a ta ma) (hb : MQ X K M b tb mb) (hc : MQ X K M c tc mc) (hm : lastMarks [op, op'] [b, c] = false := by with_unfolding_all rfl) :
    MD X K M (.Compare a [op, op'] [b, c] pos) (tChain r r' ta tb tc) (mChain f g ma mb mc) := ⟨fun i => pe_chain (ho i) (ho' i) (ha.pe i) (hb.pe i) (hc.pe i) hm, fun H0 O0 O σ H env d s hmm Q q => by
  obtain ⟨x, y, h1, h2, h3⟩ := bind2 hmm
  obtain ⟨z, h4, h5⟩ := bind1 h3
  refine ha.sd H0 O0 O σ H env x s h1 _ fun v H1 e1 hv => ?_
  refine hb.sd H0 O0 O σ H1 env y (s.ex e1) h2 _ fun w H2 e2 hw => ?_
  have s2 := (s.ex e1).ex e2
  refine hf H2 O v w x y z s2.there (hv.ex e2) hw h4 _ fun u H3 e3 hu => ?_
  cases z with
  | bool bz =>
    cases hu
    refine ⟨bz, rfl, ?_⟩
    cases bz with
    | true =>
      rw [if_pos rfl]
      obtain ⟨dc, h6, h7⟩ := bind1 (show ((mc env).bind fun c => g y c) = some d from h5)
      refine hc.sd H0 O0 O σ H3 env dc (s2.ex e3) h6 _ fun t H4 e4 ht => ?_
      exact hg H4 O w t y dc d ((s2.ex e3).ex e4).there ((hw.ex e3).ex e4) ht h7 Q fun v' H5 e5 h => q v' H5 ((((e1.trans e2).trans e3).trans e4).trans e5) h
    | false =>
      rw [if_neg (show ¬ false = true from Bool.false_ne_true)]
      cases h5
      exact q _ H3 ((e1.trans e2).trans e3) (.bl _)
  | _ => cases h5⟩
def mUn (f : PyData → Option PyData) (m : En → Option PyData) : En → Option PyData := fun env => (m env).bind f
end
end Rv
namespace Rv
open PySem L2 PySem.Spec PyProof.Rows
variable [Lz]
/-- J walks things that read as ds while the heap outside the owned stays (b: and the owned do) -/
def Wk (K : PySem.W.Frag) (O : List Addr) (J : It) (H : Hp) (ds : List PyData) (b : Bool) : Prop := ∀ (H' : Hp) (O' : List Addr), Ex (cut H O) (cut H' O') → (∀ l ∈ O', ∃ o, H' l = some o) → (b = true → ExT H H') →
  ∀ i, (∀ d, ds[i]? = some d → J.go i H' ∧ ∀ x H'', J.yld i H' x H'' → ExT H' H'' ∧ Dp K (cut H'' O') x d) ∧ (ds.length = i → J.stop i H')
structure MI {ι : Type} (X : ι → Cx) (K : PySem.W.Frag) (M : MM) (tg e : Expr) (wi : TI) (m : En → Option (List PyData)) (b : Bool) : Prop where
  pi : ∀ i, PI (X i) tg e wi
  sd : ∀ H0 O0 O σ H env ds, Sl K M H0 O0 O σ H env → m env = some ds → ∀ R : It → Hp → Prop, (∀ J H2, ExT H H2 → Wk K O J H2 ds b → R J H2) → wi σ H R
theorem Wk.weak {K : PySem.W.Frag} {O : List Addr} {J : It} {H : Hp} {ds : List PyData} (h : Wk K O J H ds false) : Wk K O J H ds true := fun H' O' a c _ => h H' O' a c (fun z => nomatch z)
def iSeq (K : PySem.W.Frag) (tl : TE) : TI := fun σ H R => iList K tl σ H R ∨ iTup K tl σ H R ∨ iStr tl σ H R
theorem pi_seq {X : Cx} {K : PySem.W.Frag} (hK : X.K = K) {tg l : Expr} {tl : TE} (hl : PE X l tl) : PI X tg l (iSeq K tl) := by
  subst hK
  refine ⟨fun pins s σ H R I => ?_⟩
  rintro (h | h | h)
  · exact (pi_list hl).run pins s σ H R I h
  · exact (pi_tup hl).run pins s σ H R I h
  · exact (pi_str hl).run pins s σ H R I h
def itemsD : PyData → Option (List PyData)
  | .list xs => some xs
  | .tuple xs => some xs
  | .str word => some (word.cps.toList.map fun c => .str ⟨#[c]⟩)
  | _ => none
section
variable {ι : Type} {X : ι → Cx} {K : PySem.W.Frag} {N : List Str} {k : Nat} {M : MM} {a b c e tg : Expr} {ta tb tc te : TE} {ma mb mc me : En → Option PyData} {pos : Pos}
theorem wk_list {H : Hp} {O : List Addr} {p : Addr} {xs : List V} {ds : List PyData} {b : Bool} (hs : ∀ H' O', Ex (cut H O) (cut H' O') → (b = true → ExT H H') → SqL K H' p xs) (ha : DpAll K (cut H O) xs ds) : Wk K O (Itl K p) H ds b := fun H' O' e1 _ e3 i => by
  have hq := hs H' O' e1 e3
  refine ⟨fun d hd => ?_, fun hl => ⟨xs, hq, by rw [dpAll_len ha]; exact Nat.le_of_eq hl⟩⟩
  obtain ⟨v, hv, hd'⟩ := dpAll_get' ha hd
  refine ⟨⟨xs, v, hq, hv⟩, fun x H'' hy => ?_⟩
  obtain ⟨e, hy⟩ := hy
  subst e
  have : x = v := Option.some.inj ((hy xs hq).symm.trans hv)
  subst this
  exact ⟨ExT.refl _, dp_ex e1 hd'⟩
theorem wk_tup {H : Hp} {O : List Addr} {p : Addr} {xs : List V} {ds : List PyData} {b : Bool} (hs : SqT K (cut H O) p xs) (ha : DpAll K (cut H O) xs ds) : Wk K O (Itt K p) H ds b := fun H' O' e1 _ _ i => by
  have hq : SqT K H' p xs := cut_ex.st (e1.st hs)
  refine ⟨fun d hd => ?_, fun hl => ⟨xs, hq, by rw [dpAll_len ha]; exact Nat.le_of_eq hl⟩⟩
  obtain ⟨v, hv, hd'⟩ := dpAll_get' ha hd
  refine ⟨⟨xs, v, hq, hv⟩, fun x H'' hy => ?_⟩
  obtain ⟨e, hy⟩ := hy
  subst e
  have : x = v := Option.some.inj ((hy xs hq).symm.trans hv)
  subst this
  exact ⟨ExT.refl _, dp_ex e1 hd'⟩
theorem wk_str {H : Hp} {O : List Addr} {z : Str} {b : Bool} : Wk K O (Its z) H (z.cps.toList.map fun c => PyData.str ⟨#[c]⟩) b := fun H' O' _ _ _ i => by
  refine ⟨fun d hd => ?_, fun hl => by
    rw [List.length_map, Array.length_toList] at hl
    exact Nat.le_of_eq hl⟩
  rw [List.getElem?_map] at hd
  cases hc : z.cps.toList[i]? with
  | none =>
    rw [hc] at hd
    cases hd
  | some c =>
    rw [hc] at hd
    cases hd
    have hi : i < z.cps.size := by
      have := (List.getElem?_eq_some_iff.mp hc).1
      simpa only [Array.length_toList] using this
    refine ⟨hi, fun x H'' hy => ?_⟩
    obtain ⟨e, c', hc', ex⟩ := hy
    subst e
    have : z.cps.toList[i]? = some c' := by
      rw [Array.getElem?_toList]
      exact hc'
    rw [hc] at this
    cases this
    subst ex
    exact ⟨ExT.refl _, .str _⟩
def mIt (m : En → Option PyData) : En → Option (List PyData) := fun env => (m env).bind itemsD
/-- over anything outside the owned -/
theorem i_seq (F : Fam X K N k) (h : MD X K M e te me) : MI X K M tg e (iSeq K te) (mIt me) false := ⟨fun i => pi_seq (F.hK i) (h.pe i), fun H0 O0 O σ H env ds s hm R q => by
  obtain ⟨d, h1, h2⟩ := bind1 hm
  cases d with
  | list xs =>
    cases h2
    refine .inl (h.sd H0 O0 O σ H env _ s h1 _ fun v H1 e1 hv => ?_)
    cases hv with
    | lst hs ha => exact ⟨_, rfl, ⟨_, cut_ex.sl hs⟩, q _ H1 e1 (wk_list (fun H' O' a _ => cut_ex.sl (a.sl hs)) ha)⟩
  | tuple xs =>
    cases h2
    refine .inr (.inl (h.sd H0 O0 O σ H env _ s h1 _ fun v H1 e1 hv => ?_))
    cases hv with
    | tup hs ha => exact ⟨_, rfl, ⟨_, cut_ex.st hs⟩, q _ H1 e1 (wk_tup hs ha)⟩
  | str z =>
    cases h2
    refine .inr (.inr (h.sd H0 O0 O σ H env _ s h1 _ fun v H1 e1 hv => ?_))
    cases hv; exact ⟨_, rfl, q _ H1 e1 wk_str⟩
  | _ => cases h2⟩
/-- over an own list: in a comprehension -/
theorem i_own (F : Fam X K N k) (h : MQ X K M e te me) : MI X K M tg e (iSeq K te) (mIt me) true := ⟨fun i => pi_seq (F.hK i) (h.pe i), fun H0 O0 O σ H env ds s hm R q => by
  obtain ⟨d, h1, h2⟩ := bind1 hm
  cases d with
  | list xs =>
    cases h2
    refine .inl (h.sd H0 O0 O σ H env _ s h1 _ fun v H1 e1 hv => ?_)
    rcases hv with hv | ⟨l, xs, es, rfl, hl, he, ha⟩
    · cases hv with
      | lst hs ha => exact ⟨_, rfl, ⟨_, cut_ex.sl hs⟩, q _ H1 e1 (wk_list (fun H' O' a _ => cut_ex.sl (a.sl hs)) ha)⟩
    · cases he
      refine ⟨l, rfl, ⟨xs, .inl (.inl hl)⟩, q _ H1 e1 (wk_list (fun H' O' a b => ?_) ha)⟩
      by_cases z : l ∈ O
      · exact .inl (.inl ((b rfl).at hl))
      · exact .inl (.inl (cut_ex.at (a.at (by rw [cut_out z]; exact hl))))
  | tuple xs =>
    cases h2
    refine .inr (.inl (h.sd H0 O0 O σ H env _ s h1 _ fun v H1 e1 hv => ?_))
    obtain ⟨a, ys, rfl, s1, a1, c1⟩ := hv.tuple
    exact ⟨_, rfl, ⟨_, s1⟩, q _ H1 e1 (wk_tup c1 a1)⟩
  | str z =>
    cases h2
    refine .inr (.inr (h.sd H0 O0 O σ H env _ s h1 _ fun v H1 e1 hv => ?_))
    exact ⟨z, hv.str, q _ H1 e1 wk_str⟩
  | _ => cases h2⟩
theorem i_weak {wi : TI} {m : En → Option (List PyData)} (h : MI X K M tg e wi m false) : MI X K M tg e wi m true := ⟨h.pi, fun H0 O0 O σ H env ds s hm R q => h.sd H0 O0 O σ H env ds s hm R fun J H2 e w => q J H2 e w.weak⟩
def rangeD (lo : Int) (n : Nat) : List PyData := (List.range n).map fun (i : Nat) => .int (lo + (i : Int))
theorem wk_range {H : Hp} {O : List Addr} {lo : Int} {n : Nat} {b : Bool} : Wk K O (Itr lo n) H (rangeD lo n) b := fun H' O' _ _ _ i => by
  have hl : (rangeD lo n).length = n := by unfold rangeD; rw [List.length_map, List.length_range]
  refine ⟨fun d hd => ?_, fun h => by rw [hl] at h; exact Nat.le_of_eq h⟩
  have hi : i < n := by
    have := (List.getElem?_eq_some_iff.mp hd).1
    rw [hl] at this
    exact this
  unfold rangeD at hd
  rw [List.getElem?_map, List.getElem?_range hi] at hd
  cases hd
  refine ⟨hi, fun x H'' hy => ?_⟩
  obtain ⟨e, hy⟩ := hy
  subst e
  subst hy
  exact ⟨ExT.refl _, .int _⟩
def rng1 : List PyData → Option (List PyData)
  | [.int j] => if -(2 ^ 62) ≤ j ∧ j < 2 ^ 62 then some (rangeD 0 j.toNat) else none
  | _ => none
def mRng (f : List PyData → Option (List PyData)) (ms : En → Option (List PyData)) : En → Option (List PyData) := fun env => (ms env).bind f
theorem i_range1 {t : TA} {ms : En → Option (List PyData)} {p : Pos} (hm : ∀ i, (X i).mg "range" = none) (h : MA X K M [a] t ms) (hg : ∀ i, Gl (X i) "range" := by exact fun _ => rfl) (hs : ∀ i, starEach [a] (X i).env = [(false, eval a (X i).env)] := by exact fun _ => rfl) :
    MI X K M tg (.Call (.Name "range" p) [a] [] pos) (iRng1 t) (mRng rng1 ms) false := ⟨fun i => pi_range1 (hg i) (hm i) (h.pa i) (hs i), fun H0 O0 O σ H env ds s hmm R q => by
  obtain ⟨es, h1, h2⟩ := bind1 hmm
  refine h.sd H0 O0 O σ H env es s h1 _ fun vs H1 e1 hv => ?_
  cases hv with
  | nil => cases h2
  | cons hx ht =>
    cases ht with
    | cons _ _ =>
      exfalso
      revert h2
      unfold rng1
      split <;> simp_all
    | nil =>
      cases hx with
      | int j =>
        obtain ⟨hz, e⟩ := ite_some h2
        subst e
        exact ⟨j, rfl, hz.1, hz.2, q _ H1 e1 wk_range⟩
      | _ => cases h2⟩
structure MG {ι : Type} (X : ι → Cx) (K : PySem.W.Frag) (M : MM) (tg : Expr) (g : TG) (b : PyData → En → Option En) : Prop where
  pg : ∀ i, PG (X i) tg g
  sd : SndG K M g b
def gB (i : Nat) : PyData → En → Option En := fun d env => some (env.set i (some d))
theorem g_name (F : Fam X K N k) (i : Nat) {x : Str} (hi : i ∉ M := by first | decide | exact mmOut rfl) (hx : N[i]? = some x := by rfl) (hl : ∀ j, Loc (X j).env.scope x := by first | exact fun _ => Or.inl rfl | exact fun _ => Or.inr rfl) (hf : ∀ j, (X j).fn x = true ∨ (X j).env.scope.names.lookup x = some .local := by first | exact fun _ => .inl rfl | exact fun _ => .inr rfl) :
    MG X K M (.Name x pos) (gName i) (gB i) := ⟨fun j => pg_name (by rw [F.hN j]; exact F.nd) (by rw [F.hN j]; exact hx) (hl j) (hf j), fun H0 O0 O σ H env d env' v s hv hb Q q => by
  cases hb
  exact q _ (s.set hi hv)⟩
structure MGs {ι : Type} (X : ι → Cx) (K : PySem.W.Frag) (M : MM) (tgs : List Expr) (g : TGs) (b : List PyData → En → Option En) : Prop where
  pg : ∀ i, PGs (X i) tgs g
  sd : ∀ H0 O0 O σ H env ds env' vs, Sl K M H0 O0 O σ H env → DpAll K (cut H O) vs ds → b ds env = some env' → ∀ Q : L2.St → Hp → Prop, (∀ σ', Sl K M H0 O0 O σ' H env' → Q σ' H) → g vs σ H Q
def gsN : List PyData → En → Option En
  | [], env => some env
  | _, _ => none
def gsC (b : PyData → En → Option En) (bs : List PyData → En → Option En) : List PyData → En → Option En
  | d :: ds, env => (b d env).bind fun e => bs ds e
  | _, _ => none
theorem gs_nil : MGs X K M [] gNil gsN := ⟨fun _ => pgs_nil, fun H0 O0 O σ H env ds env' vs s hv hb Q q => by
  cases hv with
  | nil =>
    cases hb
    exact ⟨rfl, q σ s⟩
  | cons _ _ => cases hb⟩
theorem gs_cons {es : List Expr} {g : TG} {gs : TGs} {b : PyData → En → Option En} {bs : List PyData → En → Option En} (h : MG X K M e g b) (hr : MGs X K M es gs bs) (hs : ∀ i, (assignEach (e :: es) (X i).env).map (·.2) = assign e (X i).env :: (assignEach es (X i).env).map (·.2) := by exact fun _ => rfl) :
    MGs X K M (e :: es) (gCons g gs) (gsC b bs) := ⟨fun i => pgs_cons (h.pg i) (hr.pg i) (hs i), fun H0 O0 O σ H env ds env' vs s hv hb Q q => by
  cases hv with
  | nil => cases hb
  | cons h1 h2 =>
    obtain ⟨e1, h3, h4⟩ := bind1 (show ((b _ env).bind fun e => bs _ e) = some env' from hb)
    exact ⟨_, _, rfl, h.sd H0 O0 O σ H env _ e1 _ s h1 h3 _ fun σ' s' => hr.sd H0 O0 O σ' H e1 _ env' _ s' h2 h4 Q q⟩⟩
def gT (n : Nat) (bs : List PyData → En → Option En) : PyData → En → Option En
  | .tuple ds, env => if ds.length = n then bs ds env else none
  | _, _ => none
theorem g_tup (F : Fam X K N k) {es : List Expr} {n q : Nat} {gs : TGs} {bs : List PyData → En → Option En} (h : MGs X K M es gs bs) (hn : ∀ i, (assignEach es (X i).env).length = n := by exact fun _ => rfl) (hst : ∀ i, (assignEach es (X i).env).findIdx? (·.1) = none := by exact fun _ => rfl) :
    MG X K M (.Tuple es q pos) (gTup K n gs) (gT n bs) := ⟨fun i => by
  have := pg_tup (k := q) (pos := pos) (F.calm i) (h.pg i) (hn i) (hst i)
  rw [F.hK i] at this
  exact this, fun H0 O0 O σ H env d env' v s hv hb Q q => by
  cases hv with
  | tup hs ha =>
    rename_i ds
    have hb2 : (if ds.length = n then bs ds env else none) = some env' := hb
    by_cases z : ds.length = n
    · rw [if_pos z] at hb2
      exact ⟨_, _, rfl, cut_ex.st hs, by rw [dpAll_len ha]; exact z, h.sd H0 O0 O σ H env _ env' _ s ha hb2 Q q⟩
    · rw [if_neg z] at hb2
      cases hb2
  | _ => cases hb⟩
end
end Rv
namespace Rv
open PySem L2 PySem.Spec PyProof.Rows
variable [Lz]
section
variable {ι : Type} {X : ι → Cx} {K : PySem.W.Frag} {N : List Str} {k : Nat} {M : MM} {a b c e tg : Expr} {ta tb tc te : TE} {ma mb mc me : En → Option PyData} {pos : Pos}
def wipeD (env : En) : List Nat → En
  | [] => env
  | v :: vs => (wipeD env vs).set v none
theorem Sl.wiped {H0 H : Hp} {O0 O : List Addr} {σ : L2.St} {env : En} (s : Sl K M H0 O0 O σ H env) : ∀ vs : List Nat, Sl K M H0 O0 O (wipe σ vs) H (wipeD env vs)
  | [] => s
  | v :: vs => (Sl.wiped s vs).drop
/-- the list that a comprehension makes -/
def lcD (bind : PyData → En → Option En) (mt : En → Option Bool) (me : En → Option PyData) (env : En) : List PyData → Option (List PyData)
  | [] => some []
  | d :: ds => (bind d env).bind fun env1 => (mt env1).bind fun b => if b = true then (me env1).bind fun x => (lcD bind mt me env ds).bind fun r => some (x :: r) else lcD bind mt me env ds
def mLc (vs : List Nat) (mi : En → Option (List PyData)) (bind : PyData → En → Option En) (mt : En → Option Bool) (me : En → Option PyData) : En → Option PyData := fun env => (mi env).bind fun ds => (lcD bind mt me (wipeD env vs) ds).bind fun r => if r.length ≤ sizeLine then some (.list r) else none
theorem lcD_cons {bind : PyData → En → Option En} {mt : En → Option Bool} {me : En → Option PyData} {env : En} {d : PyData} {ds r : List PyData} (h : lcD bind mt me env (d :: ds) = some r) :
    ∃ env1 b, bind d env = some env1 ∧ mt env1 = some b ∧ ((b = true ∧ ∃ x r', me env1 = some x ∧ lcD bind mt me env ds = some r' ∧ r = x :: r') ∨ (b = false ∧ lcD bind mt me env ds = some r)) := by
  obtain ⟨env1, h1, h2⟩ := bind1 (show ((bind d env).bind _) = some r from h)
  obtain ⟨b, h3, h4⟩ := bind1 h2
  refine ⟨env1, b, h1, h3, ?_⟩
  cases b with
  | true =>
    rw [if_pos rfl] at h4
    obtain ⟨x, r', h5, h6, h7⟩ := bind2 h4
    cases h7
    exact .inl ⟨rfl, x, r', h5, h6, rfl⟩
  | false =>
    rw [if_neg Bool.false_ne_true] at h4
    exact .inr ⟨rfl, h4⟩
theorem cut_cons {H : Hp} {O : List Addr} {D : Addr} {o : HO} (h : H D = none) : cut (upd H D o) (D :: O) = cut H O := by
  funext a
  by_cases z : a ∈ O
  · rw [cut_in (List.mem_cons_of_mem _ z), cut_in z]
  · by_cases y : a = D
    · subst y
      rw [cut_in List.mem_cons_self, cut_out z, h]
    · rw [cut_out (by simp only [List.mem_cons, not_or]; exact ⟨y, z⟩), cut_out z, upd_ne y]
theorem snd_lc {vs : List Nat} {wi : TI} {mi : En → Option (List PyData)} {g : TG} {bind : PyData → En → Option En} {tt : TT} {mt : En → Option Bool}
    (hi : ∀ H0 O0 O σ H env ds, Sl K M H0 O0 O σ H env → mi env = some ds → ∀ R : It → Hp → Prop, (∀ J H2, ExT H H2 → Wk K O J H2 ds true → R J H2) → wi σ H R)
    (hg : SndG K M g bind) (hk : ∀ x σ H (Q : L2.St → Hp → Prop), g x (wipe σ vs) H Q → g x (wipe σ vs) H fun σ2 H2 => wipe σ2 vs = wipe σ vs ∧ Q σ2 H2) (ht : SndT K M tt mt) (he : Snd K M te me) : Snd K M (tLc wi g tt te vs) (mLc vs mi bind mt me) := fun H0 O0 O σ H env d s hm Q q => by
  obtain ⟨ds, h1, h2⟩ := bind1 hm
  obtain ⟨r, h3, h4⟩ := bind1 h2
  obtain ⟨hz, e⟩ := ite_some h4
  subst e
  refine hi H0 O0 O σ H env ds s h1 _ fun J H1 e1 wk D hD => ?_
  have s1 := s.ex e1
  have nD : D ∉ O := s1.new hD
  -- the slots over a heap with the new list, owned
  have up : ∀ H', Ex (cut H1 O) (cut H' (D :: O)) → ExT H1 H' → (∃ acc, H' D = some (.lst acc)) → Sl K M H0 O0 (D :: O) (wipe σ vs) H' (wipeD env vs) := fun H' x1 x2 x3 => by
    obtain ⟨acc, y⟩ := x3
    exact (Sl.wiped s1 vs).beside hD x1 x2 ⟨_, y⟩
  refine ⟨fun i m H' => i ≤ ds.length ∧ m = ds.length - i ∧ Ex (cut H1 O) (cut H' (D :: O)) ∧ ExT H1 H' ∧ ∃ acc rs rest, H' D = some (.lst acc) ∧ DpAll K (cut H' (D :: O)) acc rs ∧ lcD bind mt me (wipeD env vs) (ds.drop i) = some rest ∧ rs ++ rest = r,
    ⟨ds.length, Nat.zero_le _, rfl, ?_, ?_, [], [], r, upd_same, .nil, h3, rfl⟩, fun i m H' w => ?_⟩
  · rw [cut_cons hD]
    exact Ex.refl _
  · exact ExT.new hD
  · obtain ⟨hil, rfl, x1, x2, acc, rs, rest, y1, y2, y3, y4⟩ := w
    have s3 := up H' x1 x2 ⟨acc, y1⟩
    have xx : ExT H1 H' := x2
    have hw := wk H' (D :: O) x1 s3.there (fun _ => x2) i
    by_cases hlt : i < ds.length
    · have hdi : ds[i]? = some ds[i] := List.getElem?_eq_getElem hlt
      obtain ⟨go, yl⟩ := hw.1 _ hdi
      rw [List.drop_eq_getElem_cons hlt] at y3
      obtain ⟨env1, b, z1, z2, z3⟩ := lcD_cons y3
      refine .inr ⟨go, fun H2 => i + 1 ≤ ds.length ∧ Ex (cut H1 O) (cut H2 (D :: O)) ∧ ExT H1 H2 ∧ ∃ acc rs rest, H2 D = some (.lst acc) ∧ DpAll K (cut H2 (D :: O)) acc rs ∧ lcD bind mt me (wipeD env vs) (ds.drop (i + 1)) = some rest ∧ rs ++ rest = r, fun H2 p => ⟨ds.length - (i + 1), by omega, p.1, rfl, p.2⟩, fun x H2 hy => ?_⟩
      obtain ⟨e2, hx⟩ := yl x H2 hy
      refine hk x σ H2 _ ?_
      refine hg H0 O0 (D :: O) (wipe σ vs) H2 (wipeD env vs) ds[i] env1 x (s3.ex e2) hx z1 _ fun σ2 s4 => ?_
      refine ht H0 O0 (D :: O) σ2 H2 env1 b s4 z2 _ fun H3 e3 => ?_
      have s5 := s4.ex e3
      have e23 := e2.trans e3
      have accLen : acc.length < sizeLine ∨ b = false := by
        rcases z3 with ⟨_, x', r', _, z5, z6⟩ | ⟨z4, _⟩
        · left
          have l1 := dpAll_len y2
          have l2 : (rs ++ rest).length = r.length := by rw [y4]
          rw [List.length_append, z6, List.length_cons] at l2
          omega
        · exact .inr z4
      rcases z3 with ⟨z4, x', r', z5, z6, z7⟩ | ⟨z4, z5⟩
      · subst z4
        rw [if_pos rfl]
        refine he H0 O0 (D :: O) σ2 H3 env1 x' s5 z5 _ fun y H4 e4 hy4 => ?_
        have e24 := e23.trans e4
        have hD4 : H4 D = some (.lst acc) := e24.at y1
        have ec : cut (upd H4 D (.lst (acc ++ [y]))) (D :: O) = cut H4 (D :: O) := cut_write List.mem_cons_self
        refine ⟨acc, hD4, accLen.resolve_right (fun z => by cases z), by omega, ?_, ?_, acc ++ [y], rs ++ [x'], r', upd_same, ?_, z6, by rw [List.append_assoc]; rw [z7] at y4; exact y4⟩
        · rw [ec]
          exact x1.trans (cut_mono e24)
        · exact (x2.trans e24).wrote hD hD4
        · rw [ec]
          exact dpAll_app (dpAll_ex (cut_mono e24) y2) (.cons hy4 .nil)
      · subst z4
        rw [if_neg (show ¬ false = true from Bool.false_ne_true)]
        exact ⟨by omega, x1.trans (cut_mono e23), x2.trans e23, acc, rs, rest, e23.at y1, dpAll_ex (cut_mono e23) y2, z5, y4⟩
    · have hle : ds.length ≤ i := by omega
      refine .inl ⟨hw.2 (by omega), q _ H' (e1.trans xx) ?_⟩
      rw [List.drop_of_length_le hle] at y3
      cases y3
      rw [List.append_nil] at y4
      subst y4
      have xD : Ex (cut H' (D :: O)) (cut H' O) := cut_less fun a h => List.mem_cons_of_mem _ h
      exact .lst (.inl (.inl (by rw [cut_out nD]; exact y1))) (dpAll_ex xD y2)
end
end Rv
namespace Rv
open PySem L2 PySem.Spec PyProof.Rows
variable [Lz]
/-- a comprehension's blocks over a family -/
structure BI (ι : Type) where
  i : ι
  s : Shared
  H : Hp
  C : Addr
  cl : List (Str × Addr)
  fp : List Addr
abbrev blkF {ι : Type} (X : ι → Cx) (scope : Scope) : BI ι → Cx := fun p => (X p.i).blk p.s p.H scope (compEnvC scope p.cl p.C (X p.i).env) p.fp
section
variable {ι : Type} {X : ι → Cx} {K : PySem.W.Frag} {N : List Str} {k : Nat} {M : MM} {a b c e tg : Expr} {ta tb tc te : TE} {ma mb mc me : En → Option PyData} {pos : Pos}
theorem Fam.blk (F : Fam X K N k) (scope : Scope) : Fam (blkF X scope) K N k := ⟨fun p => F.hK p.i, fun p => F.calm p.i, fun p => F.room p.i, fun p => F.hN p.i, F.nd⟩
theorem wipe_set {σ : L2.St} {j : Nat} {x : Option V} : ∀ {vs : List Nat}, j ∈ vs → wipe (σ.set j x) vs = wipe σ vs
  | v :: vs, h => by
    unfold wipe
    by_cases z : j ∈ vs
    · rw [wipe_set z]
    · have e : j = v := (List.mem_cons.mp h).resolve_right z
      subst e
      have out : ∀ ws : List Nat, j ∉ ws → wipe (σ.set j x) ws = (wipe σ ws).set j x := fun ws => by
        induction ws with
        | nil => exact fun _ => rfl
        | cons w ws ih =>
          intro hw
          have hn : j ≠ w := fun q => hw (by rw [q]; exact List.mem_cons_self)
          show (wipe (σ.set j x) ws).set w none = ((wipe σ ws).set w none).set j x
          rw [ih fun q => hw (List.mem_cons_of_mem _ q), List.set_comm _ _ hn]
      rw [out vs z, List.set_set]
theorem wipe_wipe {σ : L2.St} (vs : List Nat) : wipe (wipe σ vs) vs = wipe σ vs := by
  have h : ∀ (ws : List Nat), (∀ w ∈ ws, w ∈ vs) → wipe (wipe σ ws) vs = wipe σ vs := fun ws => by
    induction ws with
    | nil => exact fun _ => rfl
    | cons w ws ih =>
      intro hw
      show wipe ((wipe σ ws).set w none) vs = wipe σ vs
      rw [wipe_set (hw w List.mem_cons_self), ih fun v hv => hw v (List.mem_cons_of_mem _ hv)]
  exact h vs fun _ z => z
/-- a target that stores into the slots vs alone -/
def GK (vs : List Nat) (g : TG) : Prop := ∀ x σ H (Q : L2.St → Hp → Prop), g x σ H Q → g x σ H fun σ2 H2 => wipe σ2 vs = wipe σ vs ∧ Q σ2 H2
def GKs (vs : List Nat) (g : TGs) : Prop := ∀ xs σ H (Q : L2.St → Hp → Prop), g xs σ H Q → g xs σ H fun σ2 H2 => wipe σ2 vs = wipe σ vs ∧ Q σ2 H2
theorem gk_name {vs : List Nat} {j : Nat} (h : j ∈ vs := by decide) : GK vs (gName j) := fun x σ H Q q => ⟨wipe_set h, q⟩
theorem gk_nil {vs : List Nat} : GKs vs gNil := fun xs σ H Q q => ⟨q.1, rfl, q.2⟩
theorem GK.mono {vs : List Nat} {g : TG} (h : ∀ x σ H (Q Q' : L2.St → Hp → Prop), (∀ σ' H', Q σ' H' → Q' σ' H') → g x σ H Q → g x σ H Q') : True := trivial
theorem gk_cons1 {vs : List Nat} {j : Nat} {gs : TGs} (h : j ∈ vs) (hs : GKs vs gs) : GKs vs (gCons (gName j) gs) := fun xs σ H Q q => by
  obtain ⟨v, r, e, q⟩ := q
  refine ⟨v, r, e, ?_⟩
  have q' : gs r (σ.set j (some v)) H Q := q
  have := hs r (σ.set j (some v)) H Q q'
  rw [wipe_set h] at this
  exact this
theorem gk_tup {vs : List Nat} {n : Nat} {gs : TGs} (hs : GKs vs gs) : GK vs (gTup K n gs) := fun x σ H Q q => by
  obtain ⟨a, xs, e, h1, h2, q⟩ := q
  exact ⟨a, xs, e, h1, h2, hs xs σ H Q q⟩
structure MTs {ι : Type} (X : ι → Cx) (K : PySem.W.Frag) (M : MM) (es : List Expr) (t : TT) (m : En → Option Bool) : Prop where
  pt : ∀ i, PTs (X i) es t
  sd : SndT K M t m
def mYes : En → Option Bool := fun _ => some true
theorem ts_nil : MTs X K M [] tYes mYes := ⟨fun _ => pts_nil, fun H0 O0 O σ H env b s hm Q q => by
  cases hm
  exact q H (ExT.refl H)⟩
theorem ts_one {t : TT} {m : En → Option Bool} (h : MT X K M e t m) : MTs X K M [e] t m := ⟨fun i => pts_one (h.pt i), h.sd⟩
theorem d_lc (F : Fam X K N k) {iter : Expr} {ifs : List Expr} {scope sc : Scope} (own : List (Str × Nat)) {wi : TI} {mi : En → Option (List PyData)} {g : TG} {bind : PyData → En → Option En} {tt : TT} {mt : En → Option Bool}
    (hi : MI X K M tg iter wi mi true) (hsc : ∀ i, (X i).env.scope = sc) (ok : BlkOk N sc scope own) (hg : MG (blkF X scope) K M tg g bind) (hk : GK (own.map (·.2)) g) (ht : MTs (blkF X scope) K M ifs tt mt) (he : MD (blkF X scope) K M e te me) (hs : ∀ i x, foldedSetIterable iter (X i).env x = pure x := by exact fun _ _ => rfl) :
    MD X K M (.ListComp e [⟨tg, iter, ifs, 0⟩] scope pos) (tLc wi g tt te (own.map (·.2))) (mLc (own.map (·.2)) mi bind mt me) :=
  ⟨fun i => pe_lc (F.calm i) (by rw [F.hN i]; exact F.nd) (hi.pi i) (by rw [F.hN i, hsc i]; exact ok) (fun s H C cl fp => hg.pg ⟨i, s, H, C, cl, fp⟩) (fun s H C cl fp => ht.pt ⟨i, s, H, C, cl, fp⟩) (fun s H C cl fp => he.pe ⟨i, s, H, C, cl, fp⟩) (hs i),
    snd_lc hi.sd hg.sd (fun x σ H Q q => by
      have := hk x (wipe σ (own.map (·.2))) H Q q
      rw [wipe_wipe] at this
      exact this) ht.sd he.sd⟩
structure MS {ι : Type} (X : ι → Cx) (K : PySem.W.Frag) (M : MM) (st : Stmt) (t : TS) (m : En → Option Fl) : Prop where
  ps : ∀ i, PS (X i) st t
  sd : SndS K M t m
structure MSs {ι : Type} (X : ι → Cx) (K : PySem.W.Frag) (M : MM) (sts : List Stmt) (t : TS) (m : En → Option Fl) : Prop where
  ps : ∀ i, PSs (X i) sts t
  sd : SndS K M t m
def mNext : En → Option Fl := fun env => some (.nx env)
theorem ss_nil : MSs X K M [] tNext mNext := ⟨fun _ => pss_nil, fun H0 O0 O σ H env fl D s hm q => by
  cases hm
  exact q σ H O s erefl⟩
def mSeq (m n : En → Option Fl) : En → Option Fl := fun env => (m env).bind fun f => match f with
  | .nx env' => n env'
  | f => some f
theorem Cont.weaken {H0 H H1 : Hp} {O0 O O1 : List Addr} {D : Ends} {fl : Fl} (e : Ex (cut H O) (cut H1 O1)) (h : Cont K M H0 O0 O H D fl) : Cont K M H0 O0 O1 H1 D fl := by
  cases fl with
  | nx env => exact fun σ' H' O' s x => h σ' H' O' s (e.trans x)
  | rt d => exact h
  | bk env => exact fun σ' H' O' s x => h σ' H' O' s (e.trans x)
  | ct env => exact fun σ' H' O' s x => h σ' H' O' s (e.trans x)
theorem snd_seq {t u : TS} {m n : En → Option Fl} (h1 : SndS K M t m) (h2 : SndS K M u n) : SndS K M (tSeq t u) (mSeq m n) := fun H0 O0 O σ H env fl D s hm q => by
  obtain ⟨f, g1, g2⟩ := bind1 hm
  cases f with
  | nx env' =>
    exact h1 H0 O0 O σ H env (.nx env') { D with nx := u D } s g1 fun σ' H' O' s' x => h2 H0 O0 O' σ' H' env' fl D s' g2 (q.weaken x)
  | rt d =>
    cases g2
    exact h1 H0 O0 O σ H env (.rt d) { D with nx := u D } s g1 q
  | bk env' =>
    cases g2
    exact h1 H0 O0 O σ H env (.bk env') { D with nx := u D } s g1 q
  | ct env' =>
    cases g2
    exact h1 H0 O0 O σ H env (.ct env') { D with nx := u D } s g1 q
theorem ss_cons {st : Stmt} {rest : List Stmt} {t u : TS} {m n : En → Option Fl} (h1 : MS X K M st t m) (h2 : MSs X K M rest u n) : MSs X K M (st :: rest) (tSeq t u) (mSeq m n) := ⟨fun i => pss_cons (h1.ps i) (h2.ps i), snd_seq h1.sd h2.sd⟩
theorem ss_one {st : Stmt} {t : TS} {m : En → Option Fl} (h1 : MS X K M st t m) : MSs X K M [st] t m := ⟨fun i => pss_one (h1.ps i), h1.sd⟩
def mRet (m : En → Option PyData) : En → Option Fl := fun env => (m env).bind fun d => some (.rt d)
theorem s_ret (h : MD X K M e te me) : MS X K M (.Return (some e) pos) (tRet te) (mRet me) := ⟨fun i => ps_ret (h.pe i), fun H0 O0 O σ H env fl D s hm q => by
  obtain ⟨d, g1, g2⟩ := bind1 hm
  cases g2
  exact h.sd H0 O0 O σ H env d s g1 _ fun v H2 e hv => q v H2 (s.ext.trans e) (dp_ex (cut_less fun a ha => s.sub a ha) hv)⟩
/-- return x, an own list -/
theorem s_retO (i : Nat) (hi : i ∈ M.ls := by first | decide | exact mmIn rfl) (hd : dictS M i = 0 := by first | decide | rfl) (hp : ∀ j, PE (X j) e (tVar i) := by exact fun _ => pv _) : MS X K M (.Return (some e) pos) (tRet (tVar i)) (mRet (mVar i)) := ⟨fun j => ps_ret (hp j), fun H0 O0 O σ H env fl D s hm q => by
  obtain ⟨d, g1, g2⟩ := bind1 hm
  cases g2
  obtain ⟨l, xs, ds, h1, h2, h3, rfl, h5, h6⟩ := s.lst (join_some g1) hi hd
  refine ⟨_, h1, q _ H s.ext ?_⟩
  have x0 : Ex (cut H O) (cut H O0) := cut_less fun a ha => s.sub a ha
  exact .lst (.inl (.inl (by rw [cut_out h3]; exact h5))) (dpAll_ex x0 h6)⟩
def mAsg (m : En → Option PyData) (b : PyData → En → Option En) : En → Option Fl := fun env => (m env).bind fun d => (b d env).bind fun env' => some (.nx env')
theorem snd_asg {g : TG} {b : PyData → En → Option En} (h : Snd K M te me) (hg : SndG K M g b) : SndS K M (tAsg te g) (mAsg me b) := fun H0 O0 O σ H env fl D s hm q => by
  obtain ⟨d, g1, g2⟩ := bind1 hm
  obtain ⟨env', g3, g4⟩ := bind1 g2
  cases g4
  refine h H0 O0 O σ H env d s g1 _ fun v H1 e1 hv => ?_
  exact hg H0 O0 O σ H1 env d env' v (s.ex e1) hv g3 _ fun σ' s' => q σ' H1 O s' (cut_mono e1)
theorem s_asg {g : TG} {b : PyData → En → Option En} (h : MD X K M e te me) (hg : MG X K M tg g b) (hs : ∀ i, swapsWithSole [tg] e pos.line (X i).env = pure false := by exact fun _ => rfl) (hw : ∀ i, swappedStores [tg] e (X i).env = pure none := by exact fun _ => rfl)
    (h1 : ∀ i, (assignEach [tg] (X i).env).map (·.2) = [assign tg (X i).env] := by exact fun _ => rfl) : MS X K M (.Assign [tg] e pos) (tAsg te g) (mAsg me b) := ⟨fun i => ps_asg (h.pe i) (hg.pg i) (hs i) (hw i) (h1 i), snd_asg h.sd hg.sd⟩
theorem s_set (F : Fam X K N k) (i : Nat) {x : Str} {pos' : Pos} (h : MD X K M e te me) (hi : i ∉ M := by first | decide | exact mmOut rfl) (hx : N[i]? = some x := by rfl) (hl : ∀ j, Loc (X j).env.scope x := by first | exact fun _ => Or.inl rfl | exact fun _ => Or.inr rfl) (hs : ∀ j, swapsWith e (some (.Name x pos')) pos.line (X j).env = pure false := by exact fun _ => rfl)
    (hf : ∀ j, (X j).fn x = true ∨ (X j).env.scope.names.lookup x = some .local := by first | exact fun _ => .inl rfl | exact fun _ => .inr rfl) : MS X K M (.Assign [.Name x pos'] e pos) (tAsg te (gName i)) (mAsg me (gB i)) :=
  ⟨fun j => ps_set (by rw [F.hN j]; exact F.nd) (by rw [F.hN j]; exact hx) (hl j) (h.pe j) (hs j) (hf j), snd_asg h.sd fun H0 O0 O σ H env d env' v s hv hb Q q => by
    cases hb
    exact q _ (s.set hi hv)⟩
/-- x = [..] on one line, x a local -/
theorem s_setLc (F : Fam X K N k) (i : Nat) {y : Str} {py spos : Pos} {iter : Expr} {ifs : List Expr} {scope sc : Scope} (own : List (Str × Nat)) {wi : TI} {mi : En → Option (List PyData)} {g : TG} {bind : PyData → En → Option En} {tt : TT} {mt : En → Option Bool}
    (hi : MI X K M tg iter wi mi true) (hsc : ∀ i, (X i).env.scope = sc) (ok : BlkOk N sc scope own) (hg : MG (blkF X scope) K M tg g bind) (hk : GK (own.map (·.2)) g) (ht : MTs (blkF X scope) K M ifs tt mt) (he : MD (blkF X scope) K M e te me)
    (hM : i ∉ M := by first | decide | exact mmOut rfl) (hy : N[i]? = some y := by rfl) (hyl : ∀ j, (X j).env.scope.names.lookup y = some .local := by exact fun _ => rfl) (hsw : ∀ j, swapsWith (.ListComp e [⟨tg, iter, ifs, 0⟩] scope pos) (some (.Name y py)) spos.line (X j).env = pure true := by exact fun _ => sw_true rfl rfl rfl (by decide +kernel)) (hs : ∀ i x, foldedSetIterable iter (X i).env x = pure x := by exact fun _ _ => rfl) :
    MS X K M (.Assign [.Name y py] (.ListComp e [⟨tg, iter, ifs, 0⟩] scope pos) spos) (tAsg (tLc wi g tt te (own.map (·.2))) (gName i)) (mAsg (mLc (own.map (·.2)) mi bind mt me) (gB i)) :=
  ⟨fun j => ps_setLc (F.calm j) (by rw [F.hN j]; exact F.nd) (by rw [F.hN j]; exact hy) (hyl j) (hsw j) (hi.pi j) (by rw [F.hN j, hsc j]; exact ok) (fun s H C cl fp => hg.pg ⟨j, s, H, C, cl, fp⟩) (fun s H C cl fp => ht.pt ⟨j, s, H, C, cl, fp⟩) (fun s H C cl fp => he.pe ⟨j, s, H, C, cl, fp⟩) (hs j),
    snd_asg (snd_lc hi.sd hg.sd (fun x σ H Q q => by
      have := hk x (wipe σ (own.map (·.2))) H Q q
      rw [wipe_wipe] at this
      exact this) ht.sd he.sd) fun H0 O0 O σ H env d env' v s hv hb Q q => by
    cases hb
    exact q _ (s.set hM hv)⟩
/-- a, b = x, y -/
def mPar (i j : Nat) (ms : En → Option (List PyData)) : En → Option Fl := fun env => (ms env).bind fun ds => match ds with
  | [d, f] => some (.nx ((env.set i (some d)).set j (some f)))
  | _ => none
theorem s_par (F : Fam X K N k) (i j : Nat) {x y : Str} {t : TA} {ms : En → Option (List PyData)} {px py pt : Pos} {kt k2 : Nat} {pt2 : Pos} (h : MA X K M [a, b] t ms) (hi : N[i]? = some x := by rfl) (hj : N[j]? = some y := by rfl) (hij : i ≠ j := by decide) (mi : i ∉ M := by first | decide | exact mmOut rfl) (mj : j ∉ M := by first | decide | exact mmOut rfl)
    (hx : ∀ q, (X q).env.scope.names.lookup x = some .local := by exact fun _ => rfl) (hy : ∀ q, (X q).env.scope.names.lookup y = some .local := by exact fun _ => rfl) (hw : ∀ q, swappedStores [.Tuple [.Name x px, .Name y py] kt pt] (.Tuple [a, b] k2 pt2) (X q).env = pure (some [x, y]) := by exact fun _ => rfl)
    (hs : ∀ q, swapsWithSole [.Tuple [.Name x px, .Name y py] kt pt] (.Tuple [a, b] k2 pt2) pos.line (X q).env = pure false := by exact fun _ => rfl) : MS X K M (.Assign [.Tuple [.Name x px, .Name y py] kt pt] (.Tuple [a, b] k2 pt2) pos) (tPar i j t) (mPar i j ms) :=
  ⟨fun q => ps_par (F.calm q) (by rw [F.hN q]; exact F.nd) (by rw [F.hN q]; exact hi) (by rw [F.hN q]; exact hj) hij (hx q) (hy q) (h.pa q) (hw q) (hs q), fun H0 O0 O σ H env fl D s hm q => by
    obtain ⟨ds, g1, g2⟩ := bind1 hm
    refine h.sd H0 O0 O σ H env ds s g1 _ fun vs H1 e1 hv => ?_
    cases hv with
    | nil => cases g2
    | cons h1 ht =>
      cases ht with
      | nil => cases g2
      | cons h2 ht =>
        cases ht with
        | cons _ _ => cases g2
        | nil =>
          cases g2
          exact ⟨_, _, rfl, q _ H1 O (((s.ex e1).set mi h1).set mj h2) (cut_mono e1)⟩⟩
def mIfS (mt : En → Option Bool) (m n : En → Option Fl) : En → Option Fl := fun env => (mt env).bind fun b => if b = true then m env else n env
theorem s_if {t : TT} {u w : TS} {m : En → Option Bool} {n p : En → Option Fl} {bs cs : List Stmt} (hc : MT X K M c t m) (ha : MSs X K M bs u n) (hb : MSs X K M cs w p) : MS X K M (.If c bs cs pos) (tIfS t u w) (mIfS m n p) := ⟨fun i => ps_if (hc.pt i) (ha.ps i) (hb.ps i), fun H0 O0 O σ H env fl D s hm q => by
  obtain ⟨x, g1, g2⟩ := bind1 hm
  refine hc.sd H0 O0 O σ H env x s g1 _ fun H1 e1 => ?_
  cases x with
  | true =>
    rw [if_pos rfl] at g2 ⊢
    exact ha.sd H0 O0 O σ H1 env fl D (s.ex e1) g2 (q.weaken (cut_mono e1))
  | false =>
    rw [if_neg Bool.false_ne_true] at g2 ⊢
    exact hb.sd H0 O0 O σ H1 env fl D (s.ex e1) g2 (q.weaken (cut_mono e1))⟩
/-- for -/
def loopD (bind : PyData → En → Option En) (body : En → Option Fl) : List PyData → En → Option Fl
  | [], env => some (.nx env)
  | d :: ds, env => (bind d env).bind fun env1 => (body env1).bind fun f => match f with
    | .nx e => loopD bind body ds e
    | .ct e => loopD bind body ds e
    | .bk e => some (.nx e)
    | .rt r => some (.rt r)
def mFor (mi : En → Option (List PyData)) (bind : PyData → En → Option En) (body : En → Option Fl) : En → Option Fl := fun env => (mi env).bind fun ds => loopD bind body ds env
theorem s_for (F : Fam X K N k) {iter : Expr} {body : List Stmt} {wi : TI} {mi : En → Option (List PyData)} {g : TG} {bind : PyData → En → Option En} {tb : TS} {m : En → Option Fl} (hp : ∀ i, PassesOwn (model (X i).prog (X i).w) (X i).A (X i).env (X i).xe) (hi : MI X K M tg iter wi mi false) (hg : MG X K M tg g bind) (hb : MSs X K M body tb m)
    (hs : ∀ i x, foldedSetIterable iter (X i).env x = pure x := by exact fun _ _ => rfl) : MS X K M (.For tg iter body [] pos) (tFor wi g tb) (mFor mi bind m) := ⟨fun i => ps_for (hp i) (F.calm i) (hi.pi i) (hg.pg i) (hb.ps i) (hs i), fun H0 O0 O σ H env fl D s hm q => by
  obtain ⟨ds, g1, g2⟩ := bind1 hm
  refine hi.sd H0 O0 O σ H env ds s g1 _ fun J H1 e1 wk => ?_
  refine ⟨fun i m' σ' H' => i ≤ ds.length ∧ m' = ds.length - i ∧ ∃ O' env', Sl K M H0 O0 O' σ' H' env' ∧ Ex (cut H1 O) (cut H' O') ∧ loopD bind m (ds.drop i) env' = some fl,
    ⟨ds.length, Nat.zero_le _, rfl, O, env, s.ex e1, erefl, g2⟩, fun i m' σ' H' w => ?_⟩
  obtain ⟨hil, rfl, O', env', s', x', l'⟩ := w
  have hw := wk H' O' x' s'.there (fun z => nomatch z) i
  by_cases hlt : i < ds.length
  · obtain ⟨go, yl⟩ := hw.1 _ (List.getElem?_eq_getElem hlt)
    rw [List.drop_eq_getElem_cons hlt] at l'
    obtain ⟨env1, z1, z2⟩ := bind1 (show ((bind _ env').bind _) = some fl from l')
    obtain ⟨f, z3, z4⟩ := bind1 z2
    refine .inr ⟨go, fun σ2 H2 => i + 1 ≤ ds.length ∧ ∃ O2 env2, Sl K M H0 O0 O2 σ2 H2 env2 ∧ Ex (cut H1 O) (cut H2 O2) ∧ loopD bind m (ds.drop (i + 1)) env2 = some fl, fun σ2 H2 p => ⟨ds.length - (i + 1), by omega, p.1, rfl, p.2⟩, fun x H2 hy => ?_⟩
    obtain ⟨e2, hx⟩ := yl x H2 hy
    refine hg.sd H0 O0 O' σ' H2 env' ds[i] env1 x (s'.ex e2) hx z1 _ fun σ2 s2 => ?_
    have xx : Ex (cut H1 O) (cut H2 O') := x'.trans (cut_mono e2)
    refine hb.sd H0 O0 O' σ2 H2 env1 f _ s2 z3 ?_
    cases f with
    | nx e => exact fun σ3 H3 O3 s3 x3 => ⟨by omega, O3, e, s3, xx.trans x3, z4⟩
    | ct e => exact fun σ3 H3 O3 s3 x3 => ⟨by omega, O3, e, s3, xx.trans x3, z4⟩
    | bk e =>
      cases z4
      exact fun σ3 H3 O3 s3 x3 => q σ3 H3 O3 s3 (((cut_mono e1).trans xx).trans x3)
    | rt r =>
      cases z4
      exact q
  · have hle : ds.length ≤ i := by omega
    rw [List.drop_of_length_le hle] at l'
    cases l'
    exact .inl ⟨hw.2 (by omega), q σ' H' O' s' ((cut_mono e1).trans x')⟩⟩
/-- x = a new list -/
def SndF (K : PySem.W.Frag) (M : MM) (t : TE) (m : En → Option PyData) : Prop :=
  ∀ H0 O0 O σ H env d, Sl K M H0 O0 O σ H env → m env = some d → ∀ Q : VK, (∀ p xs ds H2, H p = none → ExT H H2 → d = .list ds → H2 p = some (.lst xs) → DpAll K (cut H2 (p :: O)) xs ds → Q (.ref p) H2) → t σ H Q
structure MF {ι : Type} (X : ι → Cx) (K : PySem.W.Frag) (M : MM) (e : Expr) (t : TE) (m : En → Option PyData) : Prop where
  pe : ∀ i, PE (X i) e t
  sd : SndF K M t m
theorem f_nil : MF X K M (.List [] pos) (tLst tNil) (mLst mNil) := ⟨fun _ => pe_lst pa_nil, fun H0 O0 O σ H env d s hm Q q => by
  have e : PyData.list [] = d := Option.some.inj hm
  subst e
  exact ⟨Nat.zero_le _, fun p hp => q p [] [] _ hp (ExT.new hp) rfl upd_same .nil⟩⟩
theorem s_own (F : Fam X K N k) (i : Nat) {x : Str} {pos' : Pos} (h : MF X K M e te me) (hi : i ∈ M.ls := by first | decide | exact mmIn rfl) (hd : dictS M i = 0 := by first | decide | rfl) (hx : N[i]? = some x := by rfl) (hl : ∀ j, Loc (X j).env.scope x := by first | exact fun _ => Or.inl rfl | exact fun _ => Or.inr rfl) (hs : ∀ j, swapsWith e (some (.Name x pos')) pos.line (X j).env = pure false := by exact fun _ => rfl)
    (hf : ∀ j, (X j).fn x = true ∨ (X j).env.scope.names.lookup x = some .local := by first | exact fun _ => .inl rfl | exact fun _ => .inr rfl) : MS X K M (.Assign [.Name x pos'] e pos) (tAsg te (gName i)) (mAsg me (gB i)) :=
  ⟨fun j => ps_set (by rw [F.hN j]; exact F.nd) (by rw [F.hN j]; exact hx) (hl j) (h.pe j) (hs j) (hf j), fun H0 O0 O σ H env fl D s hm q => by
    obtain ⟨d, g1, g2⟩ := bind1 hm
    obtain ⟨env', g3, g4⟩ := bind1 g2
    cases g3
    cases g4
    refine h.sd H0 O0 O σ H env d s g1 _ fun p xs ds H2 hp e hd hl' ha => ?_
    subst hd
    exact q _ H2 (p :: O) (s.own hi hd hp e hl' ha) (cut_beside e hp)⟩
/-- x.append(e) -/
def mApp (i : Nat) (m : En → Option PyData) : En → Option Fl := fun env => (mVar i env).bind fun l => (m env).bind fun d => match l with
  | .list ds => if ds.length < sizeLine then some (.nx (env.set i (some (.list (ds ++ [d]))))) else none
  | _ => none
theorem s_app (F : Fam X K N k) (i : Nat) {x : Str} {p1 p2 p3 : Pos} (h : MD X K M e te me) (hi : i ∈ M.ls := by first | decide | exact mmIn rfl)
    (hp : ∀ j, PS (X j) (.Expr (.Call (.Attribute (.Name x p1) "append" p2) [e] [] p3) pos) (tDrop (tBM (X j).K "list" rAppend (tVar i) (tCons te tNil)))) (hd : dictS M i = 0 := by first | decide | rfl) : MS X K M (.Expr (.Call (.Attribute (.Name x p1) "append" p2) [e] [] p3) pos) (tDrop (tBM K "list" rAppend (tVar i) (tCons te tNil))) (mApp i me) :=
  ⟨fun j => by
    have := hp j
    rw [F.hK j] at this
    exact this, fun H0 O0 O σ H env fl D s hm q => by
    obtain ⟨d1, d2, g1, g2, g3⟩ := bind2 hm
    obtain ⟨l, xs, ds, h1, h2, h3, rfl, h5, h6⟩ := s.lst (join_some g1) hi hd
    obtain ⟨hz, e⟩ := ite_some (show (if ds.length < sizeLine then some (Fl.nx (env.set i (some (.list (ds ++ [d2]))))) else none) = some fl from g3)
    subst e
    refine ⟨_, h1, .inl ⟨rfl, xs, .inl (.inl h5)⟩, h.sd H0 O0 O σ H env d2 s g2 _ fun v H1 e1 hv => ?_⟩
    have s1 := s.ex e1
    refine ⟨l, xs, v, rfl, rfl, e1.at h5, by rw [dpAll_len h6]; exact hz, ?_⟩
    refine q σ _ O (s1.write hi hd (join_some g1) h1 h2 h3 (dpAll_app (dpAll_ex (cut_mono e1) h6) (.cons hv .nil))) ?_
    rw [cut_write h2]
    exact cut_mono e1⟩
def runB (n : Nat) (m : En → Option Fl) : List PyData → Option PyData := fun ds => (m (ds.map some ++ List.replicate (n - ds.length) none)).bind fun f => match f with
  | .nx _ => some .none
  | .rt d => some d
  | _ => none
theorem start_sl {H : Hp} {O : List Addr} {vs : List V} {ds : List PyData} {n : Nat} (hJ : M.J H) (ht : ∀ l ∈ O, ∃ o, H l = some o) (h : DpAll K (cut H O) vs ds) (hM : ∀ i ∈ M, vs.length ≤ i) : Sl K M H O O (vs.map some ++ List.replicate (n - vs.length) none) H (ds.map some ++ List.replicate (n - ds.length) none) := by
  have hl := dpAll_len h
  have inv : ∀ i d, (ds.map some ++ List.replicate (n - ds.length) none)[i]? = some (some d) → ds[i]? = some d := fun i d q => by
    by_cases z : i < ds.length
    · rw [List.getElem?_append_left (by rw [List.length_map]; exact z), List.getElem?_map] at q
      cases hd : ds[i]? with
      | none =>
        rw [hd] at q
        cases q
      | some x =>
        rw [hd] at q
        have : some x = some d := Option.some.inj q
        rw [this]
    · rw [List.getElem?_append_right (by rw [List.length_map]; omega), List.getElem?_replicate] at q
      split at q
      · cases q
      · cases q
  refine ⟨hJ, ExT.refl H, fun l h => .inl h, fun l h => h, ht, fun i d q _ => ?_, fun l h hn => absurd h hn, fun i R d g q => ?_, fun i d q hm => ?_, fun i j d e l hm hj q _ _ _ => ?_, by rw [List.length_append, List.length_append, List.length_map, List.length_map, List.length_replicate, List.length_replicate, hl]⟩
  · obtain ⟨v, h1, h2⟩ := dpAll_get' h (inv i d q)
    have hi := (List.getElem?_eq_some_iff.mp h1).1
    exact ⟨v, by rw [List.getElem?_append_left (by rw [List.length_map]; exact hi), List.getElem?_map, h1]; rfl, h2⟩
  · have := (List.getElem?_eq_some_iff.mp (inv i d q)).1
    have := hM i (.inr (by rw [g]; rfl))
    omega
  · have := (List.getElem?_eq_some_iff.mp (inv i d q)).1
    have := hM i (.inl hm)
    omega
  · have := (List.getElem?_eq_some_iff.mp (inv i d q)).1
    have := hM i (.inl hm)
    omega
section
variable {P : Program} {w : World} {mg : Str → Option Value} {base : Heap}
/-- the contexts of a def's body -/
structure DI where
  cdv : Value
  A : Around
  outer : List Env
  s : Shared
  H : Hp
  E : XK
abbrev defF (P : Program) (w : World) (K : PySem.W.Frag) (mg : Str → Option Value) (base : Heap) (N : List Str) (qual : Str) (sc : Scope) (f : Addr) (j : Nat) : {p : DI // Room j (p.A.deeper (envOfC qual sc p.s.heap.objs.size f p.cdv))} → Cx := fun p => (cxOf CX0 P w K mg base N qual sc f p.1.cdv p.1.A p.1.outer p.1.s p.1.H p.1.E).nox
theorem defF_fam {qual : Str} {sc : Scope} {f : Addr} {j : Nat} (nd : N.Nodup) : Fam (defF P w K mg base N qual sc f j) K N j := ⟨fun _ => rfl, fun _ => rfl, fun p => p.2, fun _ => rfl, nd⟩
theorem fn_data {x qual : Str} {st : Stmt} {f : Addr} {fd : FuncData} {ps : List Str} {j : Nat} {t : TS} {m : En → Option Fl} (F : Fun K x qual st f fd) (S : FnScope N ps (defScope st)) (hM : ∀ i ∈ M, ps.length ≤ i) (h : MSs (defF P w K mg base N qual (defScope st) f j) K M (defBody st) t m) :
    FnOk P w K mg base CX0 (j + 1) f fd ps (spD K M.J ps.length (runB N.length m)) := by
  refine F.ok S (fun vs H Q E hq => ?_) fun cdv A outer s H vs Q E hr hq => ?_
  · obtain ⟨ds, d, O, _, hl, _⟩ := hq
    exact hl
  · obtain ⟨ds, d, O, hJ, hl, ht, hv, hf, q⟩ := hq
    refine ⟨t, h.ps ⟨⟨cdv, A, outer, s, H, E⟩, hr⟩, ?_⟩
    obtain ⟨fl, g1, g2⟩ := bind1 hf
    refine h.sd H O O _ H _ fl _ (start_sl (n := N.length) hJ ht hv (by rw [hl]; exact hM)) g1 ?_
    cases fl with
    | nx env =>
      cases g2
      exact fun σ' H' O' s' _ => q _ H' s'.ext .non
    | rt r =>
      cases g2
      exact fun v H' e hv => q v H' e hv
    | bk env => cases g2
    | ct env => cases g2
end
end
end Rv
namespace Rv
open PySem L2 PySem.Spec PyProof.Rows
variable [Lz]
section
variable {K : PySem.W.Frag}
theorem dq1 {H : Hp} {O : List Addr} {vs : List V} {d : PyData} (h : DqAll K H O vs [d]) : ∃ v, vs = [v] ∧ Dq K H O v d := by
  cases h with
  | cons h1 h2 =>
    cases h2
    exact ⟨_, rfl, h1⟩
theorem dq2 {H : Hp} {O : List Addr} {vs : List V} {d e : PyData} (h : DqAll K H O vs [d, e]) : ∃ v w, vs = [v, w] ∧ Dq K H O v d ∧ Dq K H O w e := by
  cases h with
  | cons h1 h2 =>
    obtain ⟨w, rfl, h3⟩ := dq1 h2
    exact ⟨_, w, rfl, h1, h3⟩
def bLen : List PyData → Option PyData
  | [.list xs] => some (.int xs.length)
  | [.tuple xs] => some (.int xs.length)
  | [.str x] => if x.length ≤ sizeLine then some (.int x.length) else none
  | _ => none
def rLenA (K : PySem.W.Frag) : List V → Hp → VK → Prop := fun xs H Q => ∃ x n, xs = [x] ∧ LenV K x H n ∧ Q (.int n) H
theorem cr_len {X : Cx} (hK : X.K = K) : CallR X (.builtin "len") (rLenA K) := by
  subst hK
  exact call_len
theorem crd_len : CrD K (rLenA K) bLen := fun H O vs ds d ht h hf Q q => by
  unfold bLen at hf
  split at hf
  · obtain ⟨v, rfl, h1⟩ := dq1 h
    obtain ⟨a, xs, rfl, s1, a1⟩ := h1.list
    cases hf
    exact ⟨_, _, rfl, .inl ⟨xs, s1, (dpAll_len a1).symm⟩, q _ H (ExT.refl H) (.int _)⟩
  · obtain ⟨v, rfl, h1⟩ := dq1 h
    obtain ⟨a, xs, rfl, s1, a1, _⟩ := h1.tuple
    cases hf
    exact ⟨_, _, rfl, .inr ⟨xs, s1, (dpAll_len a1).symm⟩, q _ H (ExT.refl H) (.int _)⟩
  · obtain ⟨v, rfl, h1⟩ := dq1 h
    obtain ⟨hz, e⟩ := ite_some hf
    subst e
    have := h1.str
    subst this
    exact ⟨_, _, rfl, ⟨hz, rfl⟩, q _ H (ExT.refl H) (.int _)⟩
  · cases hf
def bTuple : List PyData → Option PyData
  | [.list xs] => some (.tuple xs)
  | [.tuple xs] => some (.tuple xs)
  | _ => none
def rTupleA (K : PySem.W.Frag) : List V → Hp → VK → Prop := fun xs H Q => ∃ p ys, xs = [.ref p] ∧ ((SqL K H p ys ∧ ∀ l, H l = none → Q (.ref l) (upd H l (.tup ys))) ∨ (SqT K H p ys ∧ Q (.ref p) H))
theorem cr_tuple {X : Cx} (hK : X.K = K) : CallR X (.type "tuple") (rTupleA K) := by
  subst hK
  exact call_tuple_of
theorem crd_tuple : CrD K (rTupleA K) bTuple := fun H O vs ds d ht h hf Q q => by
  unfold bTuple at hf
  split at hf
  · obtain ⟨v, rfl, h1⟩ := dq1 h
    obtain ⟨a, xs, rfl, s1, a1⟩ := h1.list
    cases hf
    exact ⟨a, xs, rfl, .inl ⟨s1, fun l hl => q _ _ (ExT.new hl) (new_tup ht hl a1)⟩⟩
  · obtain ⟨v, rfl, h1⟩ := dq1 h
    obtain ⟨a, xs, rfl, s1, a1, c1⟩ := h1.tuple
    cases hf
    exact ⟨a, xs, rfl, .inr ⟨s1, q _ H (ExT.refl H) (.tup c1 a1)⟩⟩
  · cases hf
def boolsOf : List PyData → Option (List Bool)
  | [] => some []
  | .bool b :: ds => (boolsOf ds).map (b :: ·)
  | _ :: _ => none
theorem boolsOf_some : ∀ {ds : List PyData} {ns : List Bool}, boolsOf ds = some ns → ds = ns.map .bool
  | [], ns, h => by cases h; rfl
  | d :: ds, ns, h => by
    cases d with
    | bool i =>
      cases hd : boolsOf ds with
      | none =>
        rw [boolsOf, hd] at h
        cases h
      | some ms =>
        rw [boolsOf, hd] at h
        cases h
        rw [boolsOf_some hd]
        rfl
    | _ => cases h
theorem boolsOf_map (ns : List Bool) : boolsOf (ns.map .bool) = some ns := by
  induction ns with
  | nil => rfl
  | cons n ns ih =>
    show (boolsOf (ns.map .bool)).map (n :: ·) = _
    rw [ih]
    rfl
def bAny : List PyData → Option PyData
  | [.list xs] => (boolsOf xs).map fun ns => .bool (ns.any id)
  | _ => none
def bAll : List PyData → Option PyData
  | [.list xs] => (boolsOf xs).map fun ns => .bool (ns.all id)
  | _ => none
theorem cr_anyK {X : Cx} (hK : X.K = K) (hc : X.calm = true) : CallR X (.builtin "any") (rAny K) := by
  subst hK
  exact cr_any hc
theorem cr_allK {X : Cx} (hK : X.K = K) (hc : X.calm = true) : CallR X (.builtin "all") (rAll K) := by
  subst hK
  exact cr_all hc
theorem crd_any : CrD K (rAny K) bAny := fun H O vs ds d ht h hf Q q => by
  unfold bAny at hf
  split at hf
  · rename_i xs
    obtain ⟨v, rfl, h1⟩ := dq1 h
    obtain ⟨a, ys, rfl, s1, a1⟩ := h1.list
    cases hn : boolsOf xs with
    | none =>
      rw [hn] at hf
      cases hf
    | some ns =>
      rw [hn] at hf
      cases hf
      rw [boolsOf_some hn] at a1
      have := dpAll_bools a1
      subst this
      exact ⟨a, ns, rfl, s1, q _ H (ExT.refl H) (.bl _)⟩
  · cases hf
theorem crd_all : CrD K (rAll K) bAll := fun H O vs ds d ht h hf Q q => by
  unfold bAll at hf
  split at hf
  · rename_i xs
    obtain ⟨v, rfl, h1⟩ := dq1 h
    obtain ⟨a, ys, rfl, s1, a1⟩ := h1.list
    cases hn : boolsOf xs with
    | none =>
      rw [hn] at hf
      cases hf
    | some ns =>
      rw [hn] at hf
      cases hf
      rw [boolsOf_some hn] at a1
      have := dpAll_bools a1
      subst this
      exact ⟨a, ns, rfl, s1, q _ H (ExT.refl H) (.bl _)⟩
  · cases hf
def bMin2 : List PyData → Option PyData
  | [.int i, .int j] => some (.int (if j < i then j else i))
  | _ => none
def rMin2 : List V → Hp → VK → Prop := fun xs H Q => ∃ i j, xs = [.int i, .int j] ∧ Q (.int (if j < i then j else i)) H
theorem crd_min2 : CrD K rMin2 bMin2 := fun H O vs ds d ht h hf Q q => by
  unfold bMin2 at hf
  split at hf
  · obtain ⟨v, w, rfl, h1, h2⟩ := dq2 h
    cases hf
    have e1 := h1.int
    have e2 := h2.int
    subst e1 e2
    exact ⟨_, _, rfl, q _ H (ExT.refl H) (.int _)⟩
  · cases hf
def bMax2 : List PyData → Option PyData
  | [.int i, .int j] => some (.int (if j > i then j else i))
  | _ => none
def rMax2 : List V → Hp → VK → Prop := fun vs H Q => ∃ a b : Int, vs = [.int a, .int b] ∧ Q (.int (if b > a then b else a)) H
theorem crd_max2 : CrD K rMax2 bMax2 := fun H O vs ds d ht h hf Q q => by
  unfold bMax2 at hf
  split at hf
  · obtain ⟨v, w, rfl, h1, h2⟩ := dq2 h
    cases hf
    have e1 := h1.int
    have e2 := h2.int
    subst e1 e2
    exact ⟨_, _, rfl, q _ H (ExT.refl H) (.int _)⟩
  · cases hf
def bInt : List PyData → Option PyData
  | [.int i] => some (.int i)
  | [.bool b] => some (.int (if b then 1 else 0))
  | _ => none
def rIntA : List V → Hp → VK → Prop := fun xs H Q => (∃ i, xs = [.int i] ∧ Q (.int i) H) ∨ ∃ k, xs = [.bl k] ∧ Q (.int (if k then 1 else 0)) H
theorem crd_int : CrD K rIntA bInt := fun H O vs ds d ht h hf Q q => by
  unfold bInt at hf
  split at hf
  · obtain ⟨v, rfl, h1⟩ := dq1 h
    cases hf
    have e1 := h1.int
    subst e1
    exact .inl ⟨_, rfl, q _ H (ExT.refl H) (.int _)⟩
  · obtain ⟨v, rfl, h1⟩ := dq1 h
    cases hf
    have e1 := h1.bool
    subst e1
    exact .inr ⟨_, rfl, q _ H (ExT.refl H) (.int _)⟩
  · cases hf
open PySem.W in
def rSortK (K : PySem.W.Frag) : List V → Hp → VK → Prop := fun vs H Q => ∃ (a : Addr) (bs : List (V × PyData)), vs = [.ref a] ∧ (SqL K H a (bs.map Prod.fst) ∨ SqT K H a (bs.map Prod.fst)) ∧ (∀ b ∈ bs, Dp K H b.1 b.2) ∧ AllAlike (bs.map Prod.snd) ∧ Sortable (bs.map Prod.snd) ∧ (∀ b ∈ bs, b.2.depth ≤ 64) ∧
  ∀ p, H p = none → Q (.ref p) (upd H p (.lst ((bs.mergeSort (dataLe false Prod.snd)).map Prod.fst)))
theorem each_vals : ∀ {bs : List (V × PyData)} {its : List Value}, Vals (bs.map Prod.fst) its → PySem.W.EachIs (fun u (b : V × PyData) => RelV b.1 u) its bs
  | [], _, h => by
    cases h
    exact .nil
  | b :: bs, _, h => by
    have h' : Vals (b.1 :: bs.map Prod.fst) _ := h
    cases h' with
    | cons h1 h2 => exact .cons h1 (each_vals h2)
theorem vals_each : ∀ {bs : List (V × PyData)} {its : List Value}, PySem.W.EachIs (fun u (b : V × PyData) => RelV b.1 u) its bs → Vals (bs.map Prod.fst) its
  | _, _, .nil => .nil
  | _, _, .cons h1 h2 => .cons h1 (vals_each h2)
theorem each_and {α β : Type} {R S : α → β → Prop} : ∀ {as : List α} {bs : List β}, PySem.W.EachIs R as bs → (∀ a b, b ∈ bs → R a b → S a b) → PySem.W.EachIs S as bs
  | _, _, .nil, _ => .nil
  | _, _, .cons h1 h2, f => .cons (f _ _ List.mem_cons_self h1) (each_and h2 fun a b hb => f a b (List.mem_cons_of_mem _ hb))
section
open PySem.W
variable {P : Program} {w : World} {A : Around} {E : Value → Shared → Prop} {st : Shared}
theorem tup_items {q : Addr} {us : List Value} {Q : List Value → Shared → Prop} (is : IsTup st.heap q us.toArray) (fits : us.length ≤ sizeLine)
    (goal : Q us { st with heap := (st.heap.push (seqObj "list" #[] 0)).update st.heap.objs.size (Obj.mapSeq (· ++ us.toArray)) }) :
    wpAny (model P w) A (collect (.ref q)) Q E st := by
  obtain ⟨ob, at_, kind_, n, data_⟩ := id is
  have at2 : (st.heap.push (seqObj "list" #[] 0)).get? q = some ob := Heap.get?_push_of_some _ at_
  have new_ : (st.heap.push (seqObj "list" #[] 0)).get? st.heap.objs.size = some (seqObj "list" #[] 0) := Heap.get?_push_size _ rfl
  have both : (#[] : Array Value) ++ us.toArray = us.toArray := by simp
  have small : ((#[] : Array Value) ++ us.toArray).size ≤ sizeLine + 1 := by
    rw [both, List.size_toArray]
    omega
  unfold collect
  apply wpAny_bind
  apply wpAny_runValue
  apply codeAny_builtin entry_proto_collect'
  show wpAny _ _ (do
    again (.builtin "list.__iadd__" ⟨[← newList [], .ref q], []⟩)) _ _ st
  apply wpAny_bind
  refine wpAny_newList ?_
  apply wpAny_pure
  refine ⟨Code.quiet_builtin _ (by decide +kernel), codeAny_builtin entry_list_iadd' ?_⟩
  show wpAny _ _ (Builtin.List.listExtendWith (.ref st.heap.objs.size) (.ref q) (.ref st.heap.objs.size)) _ _ { st with heap := st.heap.push (seqObj "list" #[] 0) }
  (unfold Builtin.List.listExtendWith)
  apply wpAny_bind
  refine wpAny_typeOf (T := "tuple") ⟨ob, at2, kind_⟩ ?_
  have yes : (Value.type "tuple" == Value.type "tuple") = true := rfl
  rw [if_pos (by
    rw [yes]
    simp)]
  apply wpAny_bind
  refine listItems_at at2 data_ ?_
  apply wpAny_bind
  refine listItems_at (xs := #[]) (n := 0) new_ rfl ?_
  rw [if_neg (by simp)]
  apply wpAny_bind
  refine listUpdate_at (xs := #[]) (n := 0) new_ rfl ?_ (Nat.zero_le _) small
  apply wpAny_pure
  show wpAny (model P w) A (do
    let ob ← load st.heap.objs.size
    match ob.data with
      | .seq xs _ => pure xs.toList
      | _ => unsupported "internal:collect") Q E _
  apply wpAny_bind
  refine wpAny_load (get?_update_seq new_ _) ?_
  show wpAny _ _ (pure ((#[] : Array Value) ++ us.toArray).toList) Q E _
  rw [both]
  exact wpAny_pure goal
theorem tup_sorted {β : Type} {R : Value → β → Prop} {enc : β → PyData} {q : Addr} {us : List Value} {bs : List β} {Q : Value → Shared → Prop} (is : IsTup st.heap q us.toArray) (e : EachIs R us bs) (er : EachIs (fun v b => ∃ as, Reads st.heap v (enc b) as) us bs)
    (same : AllAlike (bs.map enc)) (ord : Sortable (bs.map enc)) (few : bs.length ≤ sizeLine) (flat : ∀ b, b ∈ bs → A.units + 2 + (enc b).depth < cLine)
    (goal : ∀ out, EachIs R out (bs.mergeSort (dataLe false enc)) → Q (.ref (st.heap.objs.size + 1)) { st with heap := sortedAll st.heap us (List.toArray out) }) :
    wpAny (model P w) A (call (.builtin "sorted") [.ref q]) Q E st := by
  have few2 : us.length ≤ sizeLine := by
    rw [e.length]
    exact few
  have late : EachIs (fun v b => ∃ as, Reads (sortingHeap (copyHeap st.heap us) (st.heap.objs.size + 1) us) v (enc b) as) us bs := er.mono fun _ _ z => by
    obtain ⟨as, r⟩ := z
    exact ⟨as, PyProof.Rows.Reads.keeps (fun _ _ => sorting_copy_old) r⟩
  have sorts := SortsAt.data (prog := P) (w := w) (A := A.in1.in1) (s := { st with heap := sortingHeap (copyHeap st.heap us) (st.heap.objs.size + 1) us }) (each_map (R := fun v d => ∃ as, Reads (sortingHeap (copyHeap st.heap us) (st.heap.objs.size + 1) us) v d as) enc late) same ord (bound_map flat)
  have grown : ((st.heap.push (seqObj "list" #[] 0)).update st.heap.objs.size (Obj.mapSeq (· ++ us.toArray))).objs.size = st.heap.objs.size + 1 := by
    rw [Heap.size_update]
    exact size_push' _ _
  refine Calls.call_function_entry kind_sorted plain_sorted entry_sorted (args_sorted1 (.ref q)) ?_
  unfold Builtin.«sorted»
  apply wpAny_bind (m := checkCount "sorted" 1 1 _)
  apply wpAny_pure
  apply wpAny_bind
  refine tup_items is few2 ?_
  apply wpAny_bind
  refine wpAny_newList ?_ few2
  show wpAny _ _ _ _ _ { st with heap := copyHeap st.heap us }
  rw [grown]
  apply wpAny_bind
  apply wpAny_holding
  refine wpAny_call_entry slot_list_sort ⟨_, copyHeap_at st.heap us, rfl⟩ entry_list_sort ?_ (args_list_sort _)
  refine list_sort_vals (s := { st with heap := copyHeap st.heap us }) (copyHeap_at st.heap us) sorts few2 ⟨_, rfl, ?_⟩
  apply wpAny_pure
  exact ⟨_, rfl, goal _ (sortVals_data false e late same)⟩
end
theorem cr_sortK {X : Cx} (hK : X.K = K) (hu : X.A.units + 70 < cLine) : CallR X (.builtin "sorted") (rSortK K) := by
  subst hK
  refine fun _ st _ H vs us _ inv rel wish => ?_
  obtain ⟨a, bs, rfl, there, reads, same, ord, flat, next⟩ := wish
  obtain ⟨only, rfl, is⟩ := vals1 rel
  cases is
  have fin : ∀ (its out : List Value), bs.length ≤ sizeLine → PySem.W.EachIs (fun u (b : V × PyData) => RelV b.1 u) out (bs.mergeSort (PySem.W.dataLe false Prod.snd)) → ∃ x H', Inv X _ _ H' { st with heap := sortedAll st.heap its out.toArray } ∧ RelV x (.ref (st.heap.objs.size + 1)) ∧ _ := fun its out few is => by
    obtain ⟨n, laid⟩ := PyProof.Rows.sortedAll_at st.heap its out.toArray
    have okNew : (((bs.mergeSort (PySem.W.dataLe false Prod.snd)).map Prod.fst).length ≤ sizeLine) := by
      simp only [List.length_map, List.length_mergeSort]
      exact few
    have inv2 := inv.laid (o := .lst ((bs.mergeSort (PySem.W.dataLe false Prod.snd)).map Prod.fst)) (t' := st.toks) (fun _ _ q => PyProof.Rows.sortedAll_old (vs := its) (out := out.toArray) q) (Nat.le_succ _) ⟨okNew, out, n, vals_each is, laid⟩
    exact ⟨.ref (st.heap.objs.size + 1), _, inv2, rfl, next _ (inv.hok.fresh (Nat.le_succ _))⟩
  rcases there with there | there
  · obtain ⟨its, rv, plain, size⟩ := inv.list there
    have each := each_vals rv
    have few : bs.length ≤ sizeLine := by simpa only [List.length_map] using size
    have readsEach := each_and (S := fun u (b : V × PyData) => ∃ as, Reads st.heap u b.2 as) each fun u b hm hr => Dp.reads inv b.2 b.1 u (reads b hm) hr
    refine PySem.W.sorted_data (R := fun u (b : V × PyData) => RelV b.1 u) (enc := Prod.snd) plain.isList each readsEach same ord few (fun b hm => by
      have := flat b hm
      omega) fun out _ is => fin its out few is
  · obtain ⟨its, rv, plain, size⟩ := inv.tuple there
    have each := each_vals rv
    have few : bs.length ≤ sizeLine := by simpa only [List.length_map] using size
    have readsEach := each_and (S := fun u (b : V × PyData) => ∃ as, Reads st.heap u b.2 as) each fun u b hm hr => Dp.reads inv b.2 b.1 u (reads b hm) hr
    refine tup_sorted (R := fun u (b : V × PyData) => RelV b.1 u) (enc := Prod.snd) plain each readsEach same ord few (fun b hm => by
      have := flat b hm
      omega) fun out is => fin its out few is
def depthOk (ds : List PyData) : Bool := ds.all fun d => decide (d.depth ≤ 64)
instance (ds : List PyData) : Decidable (PySem.W.AllAlike ds) := by unfold PySem.W.AllAlike; infer_instance
def srtB (ds : List PyData) : Bool := (ds.all fun d => match d with | .tuple (_ :: _) => true | _ => false) || (ds.all fun d => match d with | .tuple _ => false | .none => false | _ => true)
theorem srtB_ok {ds : List PyData} (h : srtB ds = true) : PySem.W.Sortable ds := by
  unfold srtB at h
  rw [Bool.or_eq_true] at h
  rcases h with h | h
  · refine .inl fun d hd => ?_
    have one := List.all_eq_true.mp h d hd
    split at one
    · exact ⟨_, _, rfl⟩
    · cases one
  · refine .inr fun d hd => ?_
    have one := List.all_eq_true.mp h d hd
    split at one
    · cases one
    · cases one
    · rename_i h1 h2
      exact ⟨fun z => h2 z, fun xs z => h1 xs z⟩
def sortL (xs : List PyData) : Option PyData := if PySem.W.AllAlike xs ∧ srtB xs = true ∧ depthOk xs = true then some (.list (xs.mergeSort (PySem.W.dataLe false id))) else none
def bSorted : List PyData → Option PyData
  | [.list xs] => sortL xs
  | [.tuple xs] => sortL xs
  | _ => none
theorem zip_fst {H : Hp} {xs : List V} {ds : List PyData} (h : DpAll K H xs ds) : (xs.zip ds).map Prod.fst = xs ∧ (xs.zip ds).map Prod.snd = ds ∧ ∀ b ∈ xs.zip ds, Dp K H b.1 b.2 := by
  induction xs generalizing ds with
  | nil =>
    cases h
    exact ⟨rfl, rfl, fun _ z => nomatch z⟩
  | cons x xs ih =>
    cases h with
    | cons h1 h2 =>
      obtain ⟨a, b, c⟩ := ih h2
      refine ⟨by rw [List.zip_cons_cons, List.map_cons, a], by rw [List.zip_cons_cons, List.map_cons, b], fun z hz => ?_⟩
      rw [List.zip_cons_cons] at hz
      rcases List.mem_cons.mp hz with q | q
      · subst q
        exact h1
      · exact c z q
theorem dpAll_of_zip {H : Hp} : ∀ (bs : List (V × PyData)), (∀ b ∈ bs, Dp K H b.1 b.2) → DpAll K H (bs.map Prod.fst) (bs.map Prod.snd)
  | [], _ => .nil
  | b :: bs, h => .cons (h b List.mem_cons_self) (dpAll_of_zip bs fun c hc => h c (List.mem_cons_of_mem _ hc))
theorem crd_sorted : CrD K (rSortK K) bSorted := fun H O vs ds d ht h hf Q q => by
  have go : ∀ (a : Addr) (ys : List V) (xs : List PyData), (SqL K H a ys ∨ SqT K H a ys) → DpAll K (cut H O) ys xs → sortL xs = some d → rSortK K [.ref a] H Q := fun a ys xs s1 a1 hf => by
    obtain ⟨⟨c1, c2, c3⟩, e⟩ := ite_some hf
    subst e
    obtain ⟨z1, z2, z3⟩ := zip_fst a1
    refine ⟨a, ys.zip xs, rfl, by rw [z1]; exact s1, fun b hb => dp_ex cut_ex (z3 b hb), by rw [z2]; exact c1, by rw [z2]; exact srtB_ok c2, fun b hb => ?_, fun p hp => q _ _ (ExT.new hp) (new_list ht hp ?_)⟩
    · have : b.2 ∈ xs := by
        rw [← z2]
        exact List.mem_map.mpr ⟨b, hb, rfl⟩
      exact of_decide_eq_true (List.all_eq_true.mp c3 _ this)
    · have e2 : xs.mergeSort (PySem.W.dataLe false id) = ((ys.zip xs).mergeSort (PySem.W.dataLe false Prod.snd)).map Prod.snd := by
        have := PySem.W.sort_maps (r := PySem.W.dataLe false Prod.snd) (s := PySem.W.dataLe false id) (Prod.snd : V × PyData → PyData) (l := ys.zip xs) (fun _ _ _ _ => rfl)
        rw [this, z2]
      rw [e2]
      exact dpAll_of_zip _ fun b hb => z3 b (List.mem_mergeSort.mp hb)
  unfold bSorted at hf
  split at hf
  · obtain ⟨v, rfl, h1⟩ := dq1 h
    obtain ⟨a, ys, rfl, s1, a1⟩ := h1.list
    exact go a ys _ (.inl s1) a1 hf
  · obtain ⟨v, rfl, h1⟩ := dq1 h
    obtain ⟨a, ys, rfl, s1, a1, _⟩ := h1.tuple
    exact go a ys _ (.inr s1) a1 hf
  · cases hf
end
end Rv
namespace Rv
open PySem L2 PySem.Spec PyProof.Rows
variable [Lz]
section
variable {K : PySem.W.Frag}
def rInT (K : PySem.W.Frag) (neg : Bool) : R2 := fun x y H Q => ∃ d ds, Dp K H x d ∧ (Dp K H y (.list ds) ∨ Dp K H y (.tuple ds)) ∧ SeqAt.shaped d = true ∧ SeqAt.shaped (.list ds) = true ∧ Q (.bl (xor neg (ds.any fun z => PyData.eqv z d))) H
theorem op_inT {X : Cx} (hK : X.K = K) (hu : X.A.units + 65 < cLine) : OpR X (compareOp .In) (rInT K false) := by
  subst hK
  refine fun _ st _ H x y v u _ inv rx ry ⟨d1, items, p1, p2, s1, s2, wish⟩ => ?_
  obtain ⟨as, reads1⟩ := Dp.reads inv d1 x v p1 rx
  have lay1 := SeqAt.canLay_of_shaped s1
  have lay2 : PyData.canLayAll0 items = true := SeqAt.canLay_of_shaped s2
  have done : EP X _ _ _ (Value.bool (items.any fun z => PyData.eqv z d1)) st := ⟨.bl _, H, inv, rfl, (Bool.false_xor _) ▸ wish⟩
  rcases p2 with p2 | p2
  · obtain ⟨bs, reads2⟩ := Dp.reads inv _ y u p2 ry
    exact SeqAt.in_list_reads reads2 reads1 lay2 lay1 (room_in_shaped s1 hu) done
  · obtain ⟨bs, reads2⟩ := Dp.reads inv _ y u p2 ry
    exact SeqAt.in_tuple_reads reads2 reads1 lay2 lay1 (room_in_shaped s1 hu) done
theorem op_notInT {X : Cx} (hK : X.K = K) (hu : X.A.units + 65 < cLine) : OpR X (compareOp .NotIn) (rInT K true) := by
  subst hK
  refine fun _ st _ H x y v u _ inv rx ry ⟨d1, items, p1, p2, s1, s2, wish⟩ => ?_
  obtain ⟨as, reads1⟩ := Dp.reads inv d1 x v p1 rx
  have lay1 := SeqAt.canLay_of_shaped s1
  have lay2 : PyData.canLayAll0 items = true := SeqAt.canLay_of_shaped s2
  have done : EP X _ _ _ (Value.bool (!items.any fun z => PyData.eqv z d1)) st := ⟨.bl _, H, inv, rfl, (Bool.true_xor _) ▸ wish⟩
  rcases p2 with p2 | p2
  · obtain ⟨bs, reads2⟩ := Dp.reads inv _ y u p2 ry
    exact SeqAt.notIn_list_reads reads2 reads1 lay2 lay1 (room_in_shaped s1 hu) done
  · obtain ⟨bs, reads2⟩ := Dp.reads inv _ y u p2 ry
    exact SeqAt.notIn_tuple_reads reads2 reads1 lay2 lay1 (room_in_shaped s1 hu) done
def rSgn (neg : Bool) : R2 := fun x y H Q => ∃ (c : Nat) (z : Str), x = .str ⟨#[c]⟩ ∧ y = .str z ∧ Q (.bl (xor neg (decide (c ∈ z.cps.toList)))) H
theorem op_sgn {X : Cx} : OpR X (compareOp .In) (rSgn false) := fun pins s σ H x y v u Q I rx ry h => by
  obtain ⟨c, z, e1, e2, q⟩ := h
  rw [Bool.false_xor] at q
  exact op_in_sign pins s σ H x y v u Q I rx ry ⟨c, z, e1, e2, q⟩
theorem op_notSgn {X : Cx} : OpR X (compareOp .NotIn) (rSgn true) := fun pins s σ H x y v u Q I rx ry h => by
  obtain ⟨c, z, e1, e2, q⟩ := h
  rw [Bool.true_xor] at q
  exact op_notIn_sign pins s σ H x y v u Q I rx ry ⟨c, z, e1, e2, q⟩
def rIns (K : PySem.W.Frag) (neg : Bool) : R2 := fun x y H Q => rInT K neg x y H Q ∨ rSgn neg x y H Q
theorem op_ins {X : Cx} (hK : X.K = K) (hu : X.A.units + 65 < cLine) : OpR X (compareOp .In) (rIns K false) := OpR.or (op_inT hK hu) op_sgn
theorem op_notIns {X : Cx} (hK : X.K = K) (hu : X.A.units + 65 < cLine) : OpR X (compareOp .NotIn) (rIns K true) := OpR.or (op_notInT hK hu) op_notSgn
def dIn (neg : Bool) (x y : PyData) : Option PyData :=
  match y with
  | .list ds => if SeqAt.shaped x = true ∧ SeqAt.shaped (.list ds) = true then some (.bool (xor neg (ds.any fun z => PyData.eqv z x))) else none
  | .tuple ds => if SeqAt.shaped x = true ∧ SeqAt.shaped (.list ds) = true then some (.bool (xor neg (ds.any fun z => PyData.eqv z x))) else none
  | .str z => match x with
    | .str w => match w.cps.toList with
      | [c] => some (.bool (xor neg (decide (c ∈ z.cps.toList))))
      | _ => none
    | _ => none
  | _ => none
theorem str_one {w : Str} {c : Nat} (h : w.cps.toList = [c]) : w = ⟨#[c]⟩ := by
  cases w with
  | mk cps =>
    have : cps = #[c] := by
      apply Array.toList_inj.mp
      exact h
    rw [this]
theorem opd_in (neg : Bool) : OpD K (rIns K neg) (dIn neg) := fun H O x y d1 d2 d ht h1 h2 hf Q q => by
  unfold dIn at hf
  split at hf
  · obtain ⟨hc, e⟩ := ite_some hf
    subst e
    exact .inl ⟨_, _, h1.dp, .inl h2.dp, hc.1, hc.2, q _ H (ExT.refl H) (.bl _)⟩
  · obtain ⟨hc, e⟩ := ite_some hf
    subst e
    exact .inl ⟨_, _, h1.dp, .inr h2.dp, hc.1, hc.2, q _ H (ExT.refl H) (.bl _)⟩
  · split at hf
    · split at hf
      · rename_i c hw
        cases hf
        have e1 := h1.str
        have e2 := h2.str
        rw [str_one hw] at e1
        exact .inr ⟨c, _, e1, e2, q _ H (ExT.refl H) (.bl _)⟩
      · cases hf
    · cases hf
  · cases hf
def tyN : PyData → String
  | .none => "NoneType"
  | .bool _ => "bool"
  | .int _ => "int"
  | .str _ => "str"
  | .list _ => "list"
  | .tuple _ => "tuple"
  | .dict _ => "dict"
theorem tyx {H : Hp} {v : V} {d : PyData} (h : Dp K H v d) : TyX K H v (.type (tyN d)) := by
  cases h with
  | non => exact .base .non
  | bl b => exact .base (.bl b)
  | int i => exact .base (.int i)
  | str x => exact .base (.str x)
  | lst hs ha =>
    rcases hs with (h | ⟨o, h⟩) | ⟨o, its, n, h1, h2, _⟩
    · exact .base (.lst h)
    · exact .base (.frz h)
    · exact .kList h1 h2
  | tup hs ha =>
    rcases hs with (h | ⟨o, h⟩) | ⟨o, its, n, h1, h2, _⟩
    · exact .base (.tup h)
    · exact .fTuple h
    · exact .kTuple h1 h2
def mIsi (f : PyData → Bool) (m : En → Option PyData) : En → Option PyData := fun env => (m env).bind fun d => some (.bool (f d))
section
variable {ι : Type} {X : ι → Cx} {N : List Str} {k : Nat} {M : MM} {a b c e tg : Expr} {ta tb tc te : TE} {ma mb mc me : En → Option PyData} {pos : Pos}
def isiD (T : String) (d : PyData) : Bool := (kitB (tyN d) T).getD false
/-- isinstance(x, T) -/
theorem d_isi (F : Fam X K N k) (T : String) {x : Str} {p p2 : Pos} (h : MQ X K M e te me) (hm : ∀ i, (X i).mg "isinstance" = none) (hmx : ∀ i, (X i).mg x = none) (hT : ∀ d, (kitB (tyN d) T).isSome = true) (hb : bootBuiltins x = some (.type T)) (hg : ∀ i, Gl (X i) "isinstance" := by exact fun _ => rfl) (hgx : ∀ i, Gl (X i) x := by exact fun _ => rfl) (hn : x ≠ "__name__" := by decide) (hdb : (x == ("__debug__" : Str)) = false := by decide)
    (he : ∀ i, starEach (e :: [.Name x p2]) (X i).env = (false, eval e (X i).env) :: starEach [.Name x p2] (X i).env := by exact fun _ => rfl) (he2 : ∀ i, starEach [.Name x p2] (X i).env = (false, eval (.Name x p2) (X i).env) :: starEach [] (X i).env := by exact fun _ => rfl) (hpl : ∀ i, (backTo pos (starEach [.Name x p2] (X i).env)).any (·.1) = false := by exact fun _ => rfl) :
    MD X K M (.Call (.Name "isinstance" p) [e, .Name x p2] [] pos) (tCB (rIsi K) (tCons te (tCons (tC (.ty T)) tNil))) (mIsi (isiD T) me) := ⟨fun i => by
  have := pe_callB (pos := pos) (p := p) (r := rIsi (X i).K) call_isi (hg i) (hm i) (by decide +kernel) (pa_cons (h.pe i) (pa_cons (pe_bltn (v := .ty T) (hgx i) (hmx i) hb rfl hn hdb) pa_nil (he2 i)) (he i)) (by decide) (by decide) (he i) (hpl i)
  rw [F.hK i] at this
  exact this, fun H0 O0 O σ H env d s hmm Q q => by
  obtain ⟨d1, h1, h2⟩ := bind1 hmm
  cases h2
  refine h.sd H0 O0 O σ H env d1 s h1 _ fun v H1 e1 hv => ⟨v, .ty T, .type (tyN d1), .type T, isiD T d1, rfl, .ty T, tyx hv.dp, kit_ty ?_, q _ H1 e1 (.bl _)⟩
  obtain ⟨r, hr⟩ := Option.isSome_iff_exists.mp (hT d1)
  unfold isiD
  rw [hr]
  rfl⟩
theorem isiT_str : ∀ d, (kitB (tyN d) "str").isSome = true
  | .none => (show (kitB "NoneType" "str").isSome = true by decide +kernel)
  | .bool _ => (show (kitB "bool" "str").isSome = true by decide +kernel)
  | .int _ => (show (kitB "int" "str").isSome = true by decide +kernel)
  | .str _ => (show (kitB "str" "str").isSome = true by decide +kernel)
  | .list _ => (show (kitB "list" "str").isSome = true by decide +kernel)
  | .tuple _ => (show (kitB "tuple" "str").isSome = true by decide +kernel)
  | .dict _ => (show (kitB "dict" "str").isSome = true by decide +kernel)
def isStr : PyData → Bool
  | .str _ => true
  | _ => false
def isList : PyData → Bool
  | .list _ => true
  | _ => false
def findD (y : PyData) : List PyData → Nat → Option Nat
  | [], _ => none
  | d :: ds, i => if PyData.eqv d y = true then some i else findD y ds (i + 1)
theorem findD_some {y : PyData} : ∀ {ds : List PyData} {i j : Nat}, findD y ds i = some j → i ≤ j ∧ (∃ z, ds[j - i]? = some z ∧ PyData.eqv z y = true) ∧ ∀ (m : Nat) (z : PyData), m < j - i → ds[m]? = some z → PyData.eqv z y = false
  | [], _, _, h => by cases h
  | d :: ds, i, j, h => by
    unfold findD at h
    by_cases hd : PyData.eqv d y = true
    · rw [if_pos hd] at h
      cases h
      rw [Nat.sub_self]
      exact ⟨Nat.le_refl _, ⟨d, rfl, hd⟩, fun m z hm => absurd hm (Nat.not_lt_zero _)⟩
    · rw [if_neg hd] at h
      obtain ⟨h1, ⟨z, h2, h3⟩, h4⟩ := findD_some h
      have e : j - i = (j - (i + 1)) + 1 := by omega
      refine ⟨by omega, ⟨z, by rw [e]; exact h2, h3⟩, fun m z' hm hz => ?_⟩
      cases m with
      | zero =>
        cases hz
        exact Bool.eq_false_iff.mpr hd
      | succ m => exact h4 m z' (by omega) hz
def mIndex (ma mb : En → Option PyData) : En → Option PyData := fun env => (ma env).bind fun a => (mb env).bind fun b => match a with
  | .list ds => if SeqAt.shaped (.list ds) = true ∧ SeqAt.shaped b = true then (findD b ds 0).map fun j => .int (j : Nat) else none
  | _ => none
theorem d_index (F : Fam X K N k) {p1 : Pos} (ha : MQ X K M a ta ma) (hb : MQ X K M b tb mb) (hp : ∀ i, PE (X i) (.Call (.Attribute a "index" p1) [b] [] pos) (tBM (X i).K "list" (rIndexD (X i).K) ta (tCons tb tNil))) :
    MD X K M (.Call (.Attribute a "index" p1) [b] [] pos) (tBM K "list" (rIndexD K) ta (tCons tb tNil)) (mIndex ma mb) := ⟨fun i => by
  have := hp i
  rw [F.hK i] at this
  exact this, fun H0 O0 O σ H env d s hmm Q q => by
  obtain ⟨x, y, h1, h2, h3⟩ := bind2 hmm
  refine ha.sd H0 O0 O σ H env x s h1 _ fun v H1 e1 hv => ?_
  cases x with
  | list ds =>
    obtain ⟨l, xs, rfl, s1, a1⟩ := hv.list
    refine ⟨.inl ⟨rfl, xs, s1⟩, hb.sd H0 O0 O σ H1 env y (s.ex e1) h2 _ fun w H2 e2 hw => ?_⟩
    have h3' : (if SeqAt.shaped (.list ds) = true ∧ SeqAt.shaped y = true then (findD y ds 0).map fun j => PyData.int (j : Nat) else none) = some d := h3
    by_cases hc : SeqAt.shaped (.list ds) = true ∧ SeqAt.shaped y = true
    · rw [if_pos hc] at h3'
      cases hj : findD y ds 0 with
      | none =>
        rw [hj] at h3'
        cases h3'
      | some j =>
        rw [hj] at h3'
        cases h3'
        obtain ⟨_, ⟨z, g1, g2⟩, g3⟩ := findD_some hj
        rw [Nat.sub_zero] at g1 g3
        exact ⟨l, w, y, ds, j, z, rfl, rfl, (hv.ex e2).dp, hw.dp, hc.1, hc.2, g1, g2, g3, q _ H2 (e1.trans e2) (.int _)⟩
    · rw [if_neg hc] at h3'
      cases h3'
  | _ => cases h3⟩
def mSplit (ma mb : En → Option PyData) : En → Option PyData := fun env => (ma env).bind fun a => (mb env).bind fun b => match a, b with
  | .str x, .str y => if (y.length == 0) = false ∧ x.length + 2 ≤ sizeLine then some (.list ((Txt.split x y).map .str)) else none
  | _, _ => none
theorem d_split {p1 : Pos} (ha : MD X K M a ta ma) (hb : MD X K M b tb mb) (hs : ∀ i, starEach [b] (X i).env = [(false, eval b (X i).env)] := by exact fun _ => rfl) (hbase : ∀ i, attributeBase a "split" (X i).env (eval a (X i).env) = eval a (X i).env := by exact fun _ => rfl) (hline : (p1.endLine == pos.line) = true := by rfl) :
    MD X K M (.Call (.Attribute a "split" p1) [b] [] pos) (tM1 (fun x xs H Q => ∃ a b, x = .str a ∧ xs = [.str b] ∧ (b.length == 0) = false ∧ a.length + 2 ≤ sizeLine ∧ rNewStrs (Txt.split a b) H Q) ta tb) (mSplit ma mb) := ⟨fun i => pe_split (ha.pe i) (hb.pe i) (hs i) (hbase i) hline, fun H0 O0 O σ H env d s hmm Q q => by
  obtain ⟨x, y, h1, h2, h3⟩ := bind2 hmm
  refine ha.sd H0 O0 O σ H env x s h1 _ fun v H1 e1 hv => ?_
  cases hv with
  | str x =>
    refine ⟨⟨_, rfl⟩, hb.sd H0 O0 O σ H1 env y (s.ex e1) h2 _ fun w H2 e2 hw => ?_⟩
    cases hw with
    | str y =>
      obtain ⟨hz, e⟩ := ite_some h3
      subst e
      exact ⟨x, y, rfl, rfl, hz.1, hz.2, fun p hp => q _ _ ((e1.trans e2).trans (ExT.new hp)) (new_list ((s.ex e1).ex e2).there hp (dpAll_of_strs _))⟩
    | _ => cases h3
  | _ => cases h3⟩
end
end
end Rv
namespace Rv
open PySem L2 PySem.Spec PyProof.Rows
variable [Lz]
theorem Fam.u70 {ι : Type} {X : ι → Cx} {K : PySem.W.Frag} {N : List Str} {k : Nat} (F : Fam X K N k) (i : ι) : (X i).A.units + 70 < cLine := by
  have := (F.room i).un
  omega
theorem len_nil : ∀ env ds, mNil env = some ds → ds.length = 0 := fun env ds h => by
  cases h
  rfl
theorem len_cons {m : En → Option PyData} {ms : En → Option (List PyData)} {n : Nat} (h : ∀ env ds, ms env = some ds → ds.length = n) : ∀ env ds, mCons m ms env = some ds → ds.length = n + 1 := fun env ds hd => by
  obtain ⟨d, r, _, h2, h3⟩ := bind2 hd
  cases h3
  rw [List.length_cons, h env r h2]
theorem fn_none {P : Program} {w : World} {K : PySem.W.Frag} {mg : Str → Option Value} {base : Heap} {N : List Str} {x qual : Str} {st : Stmt} {f : Addr} {fd : FuncData} {ps : List Str} {j : Nat} {J : Hp → Prop} {fm : List PyData → Option PyData} (F : Fun K x qual st f fd) (S : FnScope N ps (defScope st)) (h : ∀ ds, fm ds = none) :
    FnOk P w K mg base CX0 (j + 1) f fd ps (spD K J ps.length fm) := by
  refine F.ok S (fun vs H Q E hq => ?_) fun cdv A outer s H vs Q E hr hq => ?_
  · obtain ⟨ds, d, O, _, hl, _⟩ := hq
    exact hl
  · obtain ⟨ds, d, O, _, hl, ht, hv, hf, q⟩ := hq
    rw [h] at hf
    cases hf
section
variable {ι : Type} {X : ι → Cx} {K : PySem.W.Frag} {N : List Str} {k : Nat} {M : MM} {a b c e : Expr} {ta tb tc te : TE} {ma mb mc me : En → Option PyData} {pos : Pos}
def mTst (m : En → Option PyData) : En → Option Bool := fun env => (m env).bind fun d => match d with
  | .bool b => some b
  | _ => none
theorem snd_tst (h : Snd K M te me) : SndT K M (tTest te) (mTst me) := fun H0 O0 O σ H env x s hm Q q => by
  obtain ⟨d, h1, h2⟩ := bind1 hm
  refine h H0 O0 O σ H env d s h1 _ fun v H1 e1 hv => ?_
  cases hv with
  | bl z =>
    cases h2
    exact ⟨_, rfl, q H1 e1⟩
  | _ => cases h2
theorem t_cmp {r : R2} {op : CmpOp} {f : PyData → PyData → Option PyData} (ho : ∀ i, OpR (X i) (compareOp op) r) (hf : OpD K r f) (ha : MQ X K M a ta ma) (hb : MQ X K M b tb mb) (hm : behindInMarks op b = false := by first | exact nomark _ | rfl) : MT X K M (.Compare a [op] [b] pos) (tTest (tOp r ta tb)) (mTst (mBin f ma mb)) :=
  ⟨fun i => pt_cmpR (ho i) (ha.pe i) (hb.pe i) hm, snd_tst (snd_op hf ha.sd hb.sd)⟩
theorem t_chain {r r' : R2} {op op' : CmpOp} {f g : PyData → PyData → Option PyData} (ho : ∀ i, OpR (X i) (compareOp op) r) (hf : OpD K r f) (ho' : ∀ i, OpR (X i) (compareOp op') r') (hg : OpD K r' g) (ha : MQ X K M a ta ma) (hb : MQ X K M b tb mb) (hc : MQ X K M c tc mc) (hm : lastMarks [op, op'] [b, c] = false := by with_unfolding_all rfl) :
    MT X K M (.Compare a [op, op'] [b, c] pos) (tTest (tChain r r' ta tb tc)) (mTst (mChain f g ma mb mc)) := ⟨fun i => pt_chain (ho i) (ho' i) (ha.pe i) (hb.pe i) (hc.pe i) hm, snd_tst (d_chain (pos := pos) ho hf ho' hg ha hb hc hm).sd⟩
end
/-- the law's end -/
def spLaw (K : PySem.W.Frag) (J : Hp → Prop) : Sp := fun vs H Q _ =>
  ∃ (at_ : Addr) (script : List Int), vs = [.ref at_] ∧ J H ∧ SqL K H at_ (script.map V.int) ∧
    script.length ≤ 63 ∧ ∀ H', Q (.bl true) H'
theorem law_end {P : Program} {w : World} {K : PySem.W.Frag} {mg : Str → Option Value} {base : Heap} {j : Nat} {f : Addr} {fd : FuncData} {x : Str} {J : Hp → Prop} {fm : List PyData → Option PyData} (G : FnOk P w K mg base CX0 j f fd [x] (spD K J 1 fm)) (h : ∀ ns : List Int, ns.length ≤ 63 → fm [.list (ns.map .int)] = some (.bool true)) :
    FnOk P w K mg base CX0 j f fd [x] (spLaw K J) := G.imp fun vs H Q E hq => by
  obtain ⟨a, ns, rfl, hJ, hs, hl, q⟩ := hq
  refine ⟨[.list (ns.map .int)], .bool true, [], hJ, rfl, (fun l z => absurd z (by simp)), DpAll.cons (.lst ?_ (dpAll_of_ints ns)) .nil, h ns hl, fun v H2 e hv => ?_⟩
  · have e0 : cut H [] = H := by
      funext a
      exact cut_out (by simp)
    rw [e0]
    exact hs
  · cases hv
    exact q _
end Rv
namespace Rv
open PySem L2 PySem.Spec PyProof.Rows
variable [Lz]
section
variable {K : PySem.W.Frag}
def dIs (neg : Bool) : PyData → PyData → Option PyData
  | .bool x, .bool y => some (.bool (decide (x = y) != neg))
  | .none, .none => some (.bool (!neg))
  | .int _, .none => some (.bool neg)
  | .bool _, .none => some (.bool neg)
  | .str _, .none => some (.bool neg)
  | .list _, .none => some (.bool neg)
  | .tuple _, .none => some (.bool neg)
  | .none, .bool _ => some (.bool neg)
  | _, _ => none
def rIsB (neg : Bool) : R2 := fun x y H Q => (∃ p q, x = .bl p ∧ y = .bl q ∧ Q (.bl (decide (p = q) != neg)) H) ∨ (y = .non ∧ Q (.bl (decide (x = .non) != neg)) H) ∨ (x = .non ∧ ∃ q, y = .bl q ∧ Q (.bl neg) H)
theorem op_isB {X : Cx} : OpR X (compareOp .Is) (rIsB false) := fun pins s σ H x y v u Q I rx ry h => by
  rcases h with ⟨p, q, ex, ey, h⟩ | ⟨ey, h⟩ | ⟨ex, q, ey, h⟩
  · exact op_is_bl pins s σ H x y v u Q I rx ry ⟨p, q, ex, ey, by simpa using h⟩
  · exact op_isN pins s σ H x y v u Q I rx ry ⟨ey, by simpa using h⟩
  · subst ex
    subst ey
    cases rx
    cases ry
    exact wpAny_is_other rfl (fun z => by cases z) ⟨.bl false, H, I, rfl, h⟩
theorem op_isNotB {X : Cx} : OpR X (compareOp .IsNot) (rIsB true) := fun pins s σ H x y v u Q I rx ry h => by
  rcases h with ⟨p, q, ex, ey, h⟩ | ⟨ey, h⟩ | ⟨ex, q, ey, h⟩
  · exact op_isnot_bl pins s σ H x y v u Q I rx ry ⟨p, q, ex, ey, by simpa using h⟩
  · exact op_notN pins s σ H x y v u Q I rx ry ⟨ey, by simpa using h⟩
  · subst ex
    subst ey
    cases rx
    cases ry
    exact wpAny_isNot_other rfl (fun z => by cases z) ⟨.bl true, H, I, rfl, h⟩
theorem opd_is (neg : Bool) : OpD K (rIsB neg) (dIs neg) := fun H O x y d1 d2 d ht h1 h2 hf Q q => by
  have go : ∀ b, PyData.bool b = d → Q (.bl b) H := fun b e => by
    subst e
    exact q _ H (ExT.refl H) (.bl b)
  unfold dIs at hf
  split at hf
  · have e1 := h1.bool
    have e2 := h2.bool
    subst e1
    subst e2
    exact .inl ⟨_, _, rfl, rfl, go _ (Option.some.inj hf)⟩
  all_goals first
    | (cases hf; done)
    | (have e1 := h1.none
       have e2 := h2.bool
       subst e1
       subst e2
       exact .inr (.inr ⟨rfl, _, rfl, go _ (Option.some.inj hf)⟩))
    | (have e2 := h2.none
       subst e2
       refine .inr (.inl ⟨rfl, ?_⟩)
       have ne : ∀ b, (decide (x = V.non)) = b → PyData.bool (b != neg) = d → Q (.bl (decide (x = V.non) != neg)) H := fun b e1 e3 => by
         rw [e1]
         exact go _ e3
       first
         | (have e1 := h1.none; subst e1; exact ne true (by decide) (by rw [← Option.some.inj hf]; cases neg <;> rfl))
         | (refine ne false (decide_eq_false ?_) (by rw [← Option.some.inj hf]; cases neg <;> rfl)
            intro z
            subst z
            first
              | exact nomatch h1.int
              | exact nomatch h1.bool
              | exact nomatch h1.str
              | (obtain ⟨_, _, e, _⟩ := h1.list; exact nomatch e)
              | (obtain ⟨_, _, e, _⟩ := h1.tuple; exact nomatch e)))
end
end Rv
namespace Rv
open PySem L2 PySem.Spec PyProof.Rows
variable [Lz]
/-- the text of a set's entry -/
def txt (e : Int × Value) : Str := match e.2 with
  | .str x _ => x
  | _ => Str.empty
def IsTxt (w : World) (e : Int × Value) : Prop := ∃ (x : Str) (u : Tok), e = (hashStr w x, Value.str x u)
/-- the texts l, each once, are the set at a; it can be walked -/
structure TxtSet (w : World) (h : Heap) (a : Addr) (l : List Str) : Prop where
  obj : ∃ o es ep t, h.get? a = some o ∧ o.ExactSet ∧ o.data = .set es ep t ∧ (∀ e ∈ es.toList, IsTxt w e) ∧ (es.toList.map txt).Perm l ∧ t.fits es.size = true ∧ Ris t.place.toList ∧ (w.params.followText "set-order" = true ∨ t.led = true)
  once : l.Nodup
  few : l.length < 64
theorem TxtSet.stay {w : World} {h h2 : Heap} {a : Addr} {l : List Str} (T : TxtSet w h a l) (keep : ∀ o, h.get? a = some o → h2.get? a = some o) : TxtSet w h2 a l := by
  obtain ⟨⟨o, es, ep, t, at_, more⟩, n, f⟩ := T
  exact ⟨⟨o, es, ep, t, keep o at_, more⟩, n, f⟩
section
variable {P : Program} {w : World} {A : Around} {E : Value → Shared → Prop} {s : Shared} {a : Addr} {l : List Str}
theorem txts_elems {es : List (Int × Value)} (g : ∀ e ∈ es, IsTxt w e) : ElemsOf (strKind P w) es := fun e he => by
  obtain ⟨x, u, rfl⟩ := g e he
  exact ⟨⟨x, strKind_is P w x u, rfl⟩, rfl⟩
theorem txt_is {e : Int × Value} (g : IsTxt w e) (k : Str) : (strKind P w).is k e.2 = true ↔ txt e = k := by
  obtain ⟨x, u, rfl⟩ := g
  show ((x == k) = true) ↔ x = k
  exact beq_iff_eq
theorem scan_room {n : Nat} (h : n < 64) : n < scanBound := Nat.lt_trans h (by decide)
/-- the table laid anew, with room for what it has -/
abbrev wider (t : SetTable) (es : Array (Int × Value)) := relayAll t es (SetTable.grown es.size)
/-- how an add ends, whatever the note g of a table that gave way is -/
theorem txt_end {g : Bool → Sem Unit} (note : ∀ (b : Bool) (s2 : Shared) (R : Unit → Shared → Prop), R () s2 → wpAny (model P w) A (g b) R E s2) {o : Obj} {es es1 : Array (Int × Value)} {ep : Nat} {t t2 : SetTable} {dummy : Bool} {R : Option Bool → Shared → Prop}
    (at_ : s.heap.get? a = some o) (exact_ : o.ExactSet) (data : o.data = .set es ep t) (small : es1.size < scanBound) (fits : t2.fits es1.size = true) (rises : Ris t2.place.toList) (led : w.params.followText "set-order" = true ∨ t2.led = true)
    (goal : ∀ {h2 : Heap} {o2 : Obj} {es2 : Array (Int × Value)} {ep2 : Nat} {t3 : SetTable}, h2.get? a = some o2 → o2.ExactSet → o2.data = .set es2 ep2 t3 → es2.toList.Perm es1.toList → t3.fits es2.size = true → Ris t3.place.toList →
      (w.params.followText "set-order" = true ∨ t3.led = true) → Heap.SameBut a s.heap h2 → R (some true) { s with heap := h2 }) :
    wpAny (model P w) A (do
      storeSet a es1 t2
      if (!dummy && t2.tooFull) = true then
        do
          g (wider t2 es1).2.2
          storeSet a (wider t2 es1).1 (wider t2 es1).2.1
          pure (some true)
      else
        pure (some true)) R E s := by
  have fst := store_at (es' := es1) (t' := t2) at_ data
  have but := Heap.SameBut.update s.heap a (Obj.putSet es1 t2)
  refine wpAny_bind (wpAny_storeSet_of at_ data ?_ (fits_of_scanBound small))
  by_cases full : (!dummy && t2.tooFull) = true
  · rw [if_pos full]
    have perm := relayAll_perm t2 es1 (SetTable.grown es1.size)
    have fits3 := relayAll_fits t2 es1 (SetTable.grown es1.size)
    have rises3 := relayAll_ris t2 es1 (SetTable.grown es1.size)
    have led3 := relayAll_led t2 es1 (SetTable.grown es1.size)
    have size3 : (relayAll t2 es1 (SetTable.grown es1.size)).1.size < scanBound := by
      rw [← Array.length_toList, perm.length_eq, Array.length_toList]
      exact small
    apply wpAny_bind
    apply note
    refine wpAny_bind (wpAny_storeSet_of fst rfl ?_ (fits_of_scanBound size3))
    apply wpAny_pure
    refine goal (store_at fst rfl) exact_ rfl perm fits3 rises3 ?_ (but.trans (Heap.SameBut.update _ a _))
    rw [led3]
    exact led
  · rw [if_neg full]
    apply wpAny_pure
    exact goal fst exact_ rfl (List.Perm.refl _) fits rises led but
/-- x is laid into the set -/
def ins (k : Str) (l : List Str) : List Str := if k ∈ l then l else k :: l
theorem TxtSet.add {k : Str} {u : Tok} {Q : Bool → Shared → Prop} (T : TxtSet w s.heap a l) (room : l.length < 63)
    (goal : ∀ h2, Heap.SameBut a s.heap h2 → TxtSet w h2 a (ins k l) → Q (decide (k ∉ l)) { s with heap := h2 }) :
    wpAny (model P w) A (setAddHashed a (.str k u) ((strKind P w).hash k)) Q E s := by
  obtain ⟨⟨o, es, ep, t, at_, exact_, data, good, same, fits, rises, led⟩, once, few⟩ := T
  have size : es.size = l.length := by
    rw [← same.length_eq, List.length_map, Array.length_toList]
  have elems : ElemsOf (strKind P w) es.toList := txts_elems good
  have small : es.size < scanBound := scan_room (size ▸ few)
  have isk : (strKind P w).is k (.str k u) = true := strKind_is P w k u
  have mem : k ∈ l ↔ ∃ e ∈ es.toList, (strKind P w).is k e.2 = true := by
    rw [← same.mem_iff, List.mem_map]
    exact ⟨fun ⟨e, he, q⟩ => ⟨e, he, (txt_is (good e he) k).mpr q⟩, fun ⟨e, he, q⟩ => ⟨e, he, (txt_is (good e he) k).mp q⟩⟩
  unfold setAddHashed
  unfold setAddHashedIn
  apply wpAny_holding
  refine wpAny_bind (wpAny_setState_of at_ data fits ?_)
  dsimp only
  rw [byScan_of (knd := strKind P w) (x := Value.str k u) rfl small elems]
  simp only [↓reduceIte]
  unfold setAddByScan
  apply wpAny_bind
  apply wpAny_bind
  apply wpAny_rule
  refine wpAny_bind (wpAny_setScan_of isk at_ data fits elems ?_)
  cases look : es.toList.findIdx? (fun e => (strKind P w).is k e.2) with
  | some j =>
    dsimp only
    obtain ⟨lt, yes, _⟩ := List.findIdx?_eq_some_iff_getElem.mp look
    have there : k ∈ l := mem.mpr ⟨_, List.getElem_mem lt, yes⟩
    have q := goal s.heap (Heap.SameBut.refl a s.heap) ⟨by
      rw [ins, if_pos there]
      exact ⟨o, es, ep, t, at_, exact_, data, good, same, fits, rises, led⟩, by rw [ins, if_pos there]; exact once, by rw [ins, if_pos there]; exact few⟩
    rw [decide_eq_false (fun z => z there)] at q
    exact wpAny_pure (wpAny_pure q)
  | none =>
    dsimp only
    have away : k ∉ l := fun z => by
      obtain ⟨e, he, yes⟩ := mem.mp z
      have no := List.findIdx?_eq_none_iff.mp look e he
      rw [yes] at no
      cases no
    rw [decide_eq_true away, ins, if_neg away] at goal
    have quiet : ∀ (b : Bool) {s2 : Shared} {R : Unit → Shared → Prop}, R () s2 → wpAny (model P w) A (match b with | true => rule "set.scan.the-table-gave-way" | false => pure ()) R E s2 := fun b s2 R r => by
      cases b
      · exact wpAny_pure r
      · exact wpAny_rule r
    have p1 := layNew_perm t es ((strKind P w).hash k) (.str k u)
    have f1 := layNew_fits t es ((strKind P w).hash k) (.str k u)
    have r1 := layNew_ris t es ((strKind P w).hash k) (.str k u) rises
    have l1 := layNew_led t es ((strKind P w).hash k) (.str k u)
    revert p1 f1 r1 l1
    generalize layNew t es ((strKind P w).hash k) (.str k u) = laid
    obtain ⟨es1, t1, wasDummy, gave⟩ := laid
    intro p1 f1 r1 l1
    dsimp only at p1 f1 r1 l1 ⊢
    rw [Array.toList_push] at p1
    have p2 : es1.toList.Perm ((hashStr w k, Value.str k u) :: es.toList) := p1.trans (List.perm_append_singleton _ _)
    have sz1 : es1.size = l.length + 1 := by
      rw [← Array.length_toList, p2.length_eq, List.length_cons, Array.length_toList, size]
    have led1 : w.params.followText "set-order" = true ∨ t1.led = true := led.imp id fun z => by
      rw [l1]
      exact z
    have good1 : ∀ e ∈ es1.toList, IsTxt w e := fun e he => by
      cases p2.mem_iff.mp he with
      | head => exact ⟨k, u, rfl⟩
      | tail _ he => exact good e he
    have done_ : ∀ {h2 : Heap} {o2 : Obj} {es2 : Array (Int × Value)} {ep2 : Nat} {t2 : SetTable}, h2.get? a = some o2 → o2.ExactSet → o2.data = .set es2 ep2 t2 → es2.toList.Perm es1.toList → t2.fits es2.size = true → Ris t2.place.toList →
        (w.params.followText "set-order" = true ∨ t2.led = true) → Heap.SameBut a s.heap h2 → Q true { s with heap := h2 } := fun {h2 o2 es2 ep2 t2} g1 g2 g3 g4 g5 g6 g7 g8 =>
      goal h2 g8 ⟨⟨o2, es2, ep2, t2, g1, g2, g3, fun e he => good1 e (g4.mem_iff.mp he), (g4.map txt).trans ((p2.map txt).trans (same.cons k)), g5, g6, g7⟩, List.nodup_cons.mpr ⟨away, once⟩, by
        rw [List.length_cons]
        omega⟩
    refine wpAny_bind (quiet _ ?_)
    have small1 : es1.size < scanBound := scan_room (by omega)
    by_cases plain : t1.plain = true
    · rw [if_pos plain, hashByValue_scannable 8 (x := Value.str k u) rfl]
      apply wpAny_bind
      apply wpAny_pure
      cases plainKind (Value.str k u)
      · exact txt_end (fun b _ _ r => quiet b r) at_ exact_ data small1 (SetTable.fits_plain_off f1) r1 led1 fun g1 g2 g3 g4 g5 g6 g7 g8 => wpAny_pure (done_ g1 g2 g3 g4 g5 g6 g7 g8)
      · exact txt_end (fun b _ _ r => quiet b r) at_ exact_ data small1 f1 r1 led1 fun g1 g2 g3 g4 g5 g6 g7 g8 => wpAny_pure (done_ g1 g2 g3 g4 g5 g6 g7 g8)
    · rw [if_neg plain]
      apply wpAny_bind
      apply wpAny_pure
      exact txt_end (fun b _ _ r => quiet b r) at_ exact_ data small1 f1 r1 led1 fun g1 g2 g3 g4 g5 g6 g7 g8 => wpAny_pure (done_ g1 g2 g3 g4 g5 g6 g7 g8)
/-- the texts met up to i, each once -/
def upTo (xs : List Str) (i : Nat) : List Str := (xs.take i).foldl (fun l k => ins k l) []
theorem upTo_next {xs : List Str} {i : Nat} {k : Str} (h : xs[i]? = some k) : upTo xs (i + 1) = ins k (upTo xs i) := by
  unfold upTo
  simp only [List.take_add_one, h, List.foldl_append]
  rfl
theorem ins_len (k : Str) (l : List Str) : (ins k l).length ≤ l.length + 1 := by
  unfold ins
  split
  · exact Nat.le_succ _
  · exact Nat.le_refl _
theorem upTo_len (xs : List Str) : ∀ i, i ≤ xs.length → (upTo xs i).length ≤ i
  | 0, _ => Nat.le_refl 0
  | i + 1, h => by
    rw [upTo_next (List.getElem?_eq_getElem h)]
    have := upTo_len xs i (by omega)
    have := ins_len xs[i] (upTo xs i)
    omega
theorem txt_loop {R : Result → Shared → Prop} {I : Addr} {fp wr : List Addr} {G : Array GenState → Array GenState → Prop} {n : Nat} {Pv : Nat → Value → Prop} {St : Nat → Shared → Prop} (W : WalksS P w A.in1 I fp wr G n Pv St) (S : Addr) (apart : S ∉ fp)
    (xs : List Str) (len : n = xs.length) (few : xs.length < 64) (val : ∀ i v, Pv i v → ∃ k t, xs[i]? = some k ∧ v = .str k t) : ∀ (left i : Nat) (s : Shared), n - i = left → i ≤ n → St i s → TxtSet w s.heap S (upTo xs i) →
      (∀ s2, Moved (S :: wr) G s s2 → TxtSet w s2.heap S (upTo xs n) → R (.ok (.ret .none)) s2) →
      codeAny (model P w) A (.builtin "set.update.loop" ⟨[.ref S, .ref I], []⟩) R s
  | 0, i, s, hl, hi, st, T, goal => by
    have notW : S ∉ wr := fun z => apart (W.sub _ z)
    obtain rfl : i = n := by omega
    apply codeAny_builtin F.entry_set_update_loop
    rw [Around.under_plainId F.plain_set_update_loop]
    show wpAny _ A.in1 (pyNext (.ref I) >>= fun x => _) _ _ _
    refine wpAny_bind (W.done s _ _ st fun s2 moved => ?_)
    refine wpAny_pure (goal s2 (moved.mono fun b hb => List.mem_cons_of_mem S hb) (T.stay fun o at_ => moved.heap S o notW at_))
  | left + 1, i, s, hl, hi, st, T, goal => by
    have notW : S ∉ wr := fun z => apart (W.sub _ z)
    have more : i < n := by omega
    apply codeAny_builtin F.entry_set_update_loop
    rw [Around.under_plainId F.plain_set_update_loop]
    show wpAny _ A.in1 (pyNext (.ref I) >>= fun x => _) _ _ _
    refine wpAny_bind (W.item i s _ _ more st fun v s2 pv st2 moved => ?_)
    obtain ⟨k, u, at_k, rfl⟩ := val i v pv
    show wpAny _ A.in1 (holding [Value.str k u] (setAdd S (.str k u)) >>= fun x => _) _ _ _
    apply wpAny_bind
    apply wpAny_holding
    unfold setAdd
    apply wpAny_holding
    refine wpAny_bind ((strKind P w).pyHash (k := k) (strKind_is P w k u) ?_)
    have T2 : TxtSet w s2.heap S (upTo xs i) := T.stay fun o at_ => moved.heap S o notW at_
    have short := upTo_len xs i (by omega)
    refine TxtSet.add (s := { s2 with toks := s2.toks + 1 }) T2 (by omega) fun h3 but T3 => ?_
    rw [← upTo_next at_k] at T3
    have other : ∀ b o, b ≠ S → s2.heap.get? b = some o → h3.get? b = some o := fun b o ne at_ => by
      rw [but.2 b ne]
      exact at_
    refine wpAny_pure ⟨plainId_quiet F.plain_set_update_loop _, ?_⟩
    refine txt_loop W S apart xs len few val left (i + 1) _ (by omega) more (W.frame _ s2 _ _ st2 (Nat.le_succ _) fun b hb o at_ => other b o (fun z => apart (z ▸ hb)) at_) T3 fun s4 moved4 T4 => goal s4 (Moved.trans W.gtrans ?_ moved4) T4
    exact (moved.mono fun b hb => List.mem_cons_of_mem S hb).then_heap (Nat.le_succ _) fun b o hb at_ => other b o (fun z => hb (z ▸ List.mem_cons_self)) at_
/-- the set as it is made -/
abbrev bareSet (w : World) : Obj := { cls := .type "set", dict := none, data := .set #[] 0 (.fresh 0 0 (!w.params.followText "set-order")) }
theorem txtSet_bare {h : Heap} {b : Addr} (at_ : h.get? b = some (bareSet w)) : TxtSet w h b [] := by
  obtain ⟨S, es, ep, t, o1, o2, o3, o4, o5, o6, o7, o8, o9, o10, o11⟩ := setR_new_at (ns := []) at_
  have e : (bareSet w) = S := Option.some.inj (at_.symm.trans o1)
  subst e
  have none_ : es = #[] := by
    injection o3 with z _ _
    exact z.symm
  subst none_
  exact ⟨⟨_, _, ep, t, o1, o2, o3, (fun _ he => nomatch he), List.Perm.refl _, o8, o10, o11⟩, List.nodup_nil, by decide⟩
theorem strs_get : ∀ {us : List Value} {xs : List Str}, StrsAre us xs → ∀ (i : Nat) (v : Value), us[i]? = some v → ∃ k t, xs[i]? = some k ∧ v = .str k t
  | _, _, .nil, i, v, h => nomatch h
  | _, _, .cons x t _, 0, v, h => ⟨x, t, rfl, (Option.some.inj h).symm⟩
  | _, _, .cons _ _ rest, i + 1, v, h => strs_get rest i v h
set_option maxHeartbeats 5000000 in
theorem init_of_txts {b : Addr} {items : Array Value} {xs : List Str} (calm : A.handled = none) (isL : s.heap.IsList b items) (are : StrsAre items.toList xs) (few : xs.length < 64) :
    codeAny (model P w) A.in1 (.call (.builtin "set.__init__") ⟨[.ref s.heap.objs.size, .ref b], []⟩)
          (wants (fun r s2 => r = .none ∧ ∃ h2 tk, s2 = { s with heap := h2, toks := tk } ∧ TxtSet w h2 s.heap.objs.size (upTo xs xs.length) ∧ ∀ c o, s.heap.get? c = some o → h2.get? c = some o) E) { s with heap := s.heap.push (bareSet w) } := by
  have ft := F.called_set
  have at_ : (s.heap.push (bareSet w)).get? s.heap.objs.size = some (bareSet w) := Heap.get?_push_size _ rfl
  have type_ : Shared.TypeIs { s with heap := s.heap.push (bareSet w) } (.ref s.heap.objs.size) "set" := ⟨_, at_, rfl⟩
  apply codeAny_call_builtin ft.init.plain F.entry_set_init
  apply check_set_init_1 type_
  obtain ⟨⟨_, dict_, _, slots_⟩, atL, rfl, nl, rfl⟩ := isL
  have atL2 := Heap.get?_push_of_some (bareSet w) atL
  have ltL : b < s.heap.objs.size := Heap.lt_size atL
  have size1 : (s.heap.push (bareSet w)).objs.size = s.heap.objs.size + 1 := Heap.size_push _ _
  have isL2 : (s.heap.push (bareSet w)).IsList b items := ⟨_, atL2, rfl, nl, rfl⟩
  have no1 := F.sub_list_set
  have no2 := F.sub_list_frozenset
  have no3 : (Value.type "list" == Value.type "dict") = false := by decide
  unfold Builtin.«set.__init__»
  unfold noKeywords
  unfold Builtin.Frozenset.updateFrom
  generalize iterIs : pyIter = go
  wp_walk
  subst iterIs
  refine wpAny_pyIter_list isL2 ?_
  apply wpAny_bind
  apply wpAny_runValue
  have ne : b ≠ (s.heap.push (bareSet w)).objs.size := by
    rw [size1]
    exact Nat.ne_of_lt (Nat.lt_succ_of_lt ltL)
  have apart : s.heap.objs.size ∉ [(s.heap.push (bareSet w)).objs.size, b] := fun z => by
    rw [size1] at z
    obtain e | e := List.mem_cons.mp z
    · exact Nat.ne_of_lt (Nat.lt_succ_self _) e
    · exact Nat.ne_of_gt ltL (List.mem_singleton.mp e)
  have len : items.size = xs.length := by
    rw [← Array.length_toList]
    exact StrsAre.len_eq are
  have val : ∀ (i : Nat) (v : Value), items[i]? = some v → ∃ k t, xs[i]? = some k ∧ v = .str k t := fun i v hv => strs_get are i v (by
    rw [Array.getElem?_toList]
    exact hv)
  have W := (Walks.list (prog := P) (w := w) (A := A.in1.in1.in1) (by simp [calm]) (s.heap.push (bareSet w)).objs.size b ne items).toS
  refine txt_loop W s.heap.objs.size apart xs len few val items.size 0 _ (Nat.sub_zero _) (Nat.zero_le _) ⟨⟨_, Heap.get?_push_size _ rfl, rfl, rfl⟩, isL2.push _⟩ (txtSet_bare (Heap.get?_push_of_some _ at_)) ?_
  rintro ⟨h2, g2, d2, tk, os2⟩ moved T
  obtain rfl : g2 = s.gens := moved.gens
  obtain rfl : d2 = s.drawn := moved.drawn
  obtain rfl : os2 = s.os := moved.os
  rw [len] at T
  apply wpAny_pure
  apply wpAny_pure
  refine ⟨rfl, h2, tk, rfl, T, fun c o at_c => ?_⟩
  have ltc : c < s.heap.objs.size := Heap.lt_size at_c
  refine moved.heap c o (fun z => ?_) (Heap.get?_push_of_some _ (Heap.get?_push_of_some _ at_c))
  obtain e | e := List.mem_cons.mp z
  · exact Nat.ne_of_lt ltc e
  · have e2 := List.mem_singleton.mp e
    rw [size1] at e2
    exact Nat.ne_of_lt (Nat.lt_succ_of_lt ltc) e2
set_option maxHeartbeats 5000000 in
/-- set(xs) of a list of texts -/
theorem set_of_txts {b : Addr} {items : Array Value} {xs : List Str} {Q : Value → Shared → Prop} (calm : A.handled = none) (isL : s.heap.IsList b items) (are : StrsAre items.toList xs) (few : xs.length < 64)
    (goal : ∀ (h2 : Heap) (tk : Nat), TxtSet w h2 s.heap.objs.size (upTo xs xs.length) → (∀ c o, s.heap.get? c = some o → h2.get? c = some o) → Q (.ref s.heap.objs.size) { s with heap := h2, toks := tk }) :
    wpAny (model P w) A (call (.type "set") [.ref b]) Q E s := by
  have ft := F.called_set
  obtain ⟨_, _, mro⟩ := ft.mro
  have made := ft.made
  have sub := ft.sub
  have notType := ft.notType
  have can := ft.canCreate
  have okay := F.typeCall_set_1 (.ref b)
  apply wpAny_call
  apply codeAny_of_tree
  show wpAny _ _ (callAny (.type "set") ⟨[.ref b], []⟩) _ _ _
  apply wpAny_pure
  refine ⟨Code.quiet_builtin _ (by decide +kernel), ?_⟩
  apply codeAny_builtin F.entry_type_call
  rw [Around.under_plain (weight_type_call_type "set" [.ref b] []) rfl]
  repeat' (first | assumption | wp_step)
  have begun := code_set_led1 (P := P) (w := w) (A := A.in1) (s := s) (.ref b) (E := E) (Q₁ := fun x s1 => x = .ref s.heap.objs.size ∧ s1 = { s with heap := s.heap.push (bareSet w) }) ⟨rfl, rfl⟩
  refine codeAny_mono begun ?_
  rintro (err | flow) s1 got
  · exact got
  · cases flow with
    | ret x =>
      obtain ⟨rfl, rfl⟩ := got
      have at_ : (s.heap.push (bareSet w)).get? s.heap.objs.size = some (bareSet w) := Heap.get?_push_size _ rfl
      have type_ : Shared.TypeIs { s with heap := s.heap.push (bareSet w) } (.ref s.heap.objs.size) "set" := ⟨_, at_, rfl⟩
      have look := ft.init.lookup
      have bind_ := ft.init.bind (.ref s.heap.objs.size)
      repeat' (first | assumption | wp_step)
      have filled := init_of_txts (P := P) (w := w) (E := E) calm isL are few
      refine codeAny_mono filled ?_
      rintro (err | flow) s2 got
      · exact got
      · cases flow with
        | ret x =>
          obtain ⟨rfl, h2, tk, rfl, T, stay⟩ := got
          repeat' (first | assumption | wp_step)
          exact goal h2 tk T stay
        | _ => exact got.elim
    | _ => exact got.elim
end
end Rv
namespace Rv
open PySem L2 PySem.Spec PyProof.Rows
variable [Lz]
theorem strsAre_vals : ∀ {xs : List Str} {us : List Value}, Vals (xs.map V.str) us → StrsAre us xs
  | [], _, .nil => .nil
  | x :: xs, _, .cons ⟨t, h⟩ r => by
    subst h
    exact .cons x t (strsAre_vals r)
/-- set(xs), whatever is asked of it: what comes of the set is W's business -/
def tSetOf (K : PySem.W.Frag) (ta : TE) (R : List Str → Hp → VK → Prop) : TE := fun σ H Q => ta σ H fun x H1 => ∃ b xs, x = .ref b ∧ SqL K H1 b (xs.map V.str) ∧ xs.length < 64 ∧ R (upTo xs xs.length) H1 Q
def rLenT : List Str → Hp → VK → Prop := fun l H Q => Q (.int (l.length : Nat)) H
section
variable {X : Cx} {e : Expr} {ta : TE} {p p2 q pos : Pos}
theorem pe_lenT (calm : X.calm = true) (hg : Gl X "len") (hm : X.mg "len" = none) (hg2 : Gl X "set") (hm2 : X.mg "set" = none) (ha : PE X e ta)
    (star : starEach [e] X.env = (false, eval e X.env) :: starEach [] X.env := by rfl) : PE X (.Call (.Name "len" p) [.Call (.Name "set" p2) [e] [] q] [] pos) (tSetOf X.K ta rLenT) := by
  constructor
  intro pins st σ H Q inv wish
  refine Call_ (ld_blt inv hg hm boot_len ?_)
  refine callWith_builtin1 (args_cons (Call_ (ld_blt inv hg2 hm2 boot_set (callWith_type1 (args_cons (thn (ha.run pins st σ H _ inv wish) ?_) star) star rfl))) rfl) rfl rfl
  rintro v s1 ⟨x, H1, inv1, rel, b, xs, rfl, there, few, goal⟩
  cases rel
  obtain ⟨its, vals, plain, _⟩ := inv1.list there
  apply args_nil
  refine set_of_txts (inv1.ok.hd calm) plain.isList (by simpa using strsAre_vals vals) few fun h2 tk T stay => ?_
  obtain ⟨⟨o, es, ep, t, at_, exact_, data, _, same, fits, _⟩, _, short⟩ := T
  have size : es.size = (upTo xs xs.length).length := by
    rw [← same.length_eq, List.length_map, Array.length_toList]
  have inv2 := inv1.kept (t' := tk) stay
  apply args_nil
  exact call_len_set at_ exact_ data fits (by omega) ⟨.int ((upTo xs xs.length).length : Nat), H1, inv2.tok _, ⟨_, by rw [size]⟩, goal⟩
end
def strsOf : List PyData → Option (List Str)
  | [] => some []
  | .str x :: ds => (strsOf ds).bind fun xs => some (x :: xs)
  | _ :: _ => none
theorem strsOf_some : ∀ {ds : List PyData} {xs : List Str}, strsOf ds = some xs → ds = xs.map .str
  | [], xs, h => by
    cases h
    rfl
  | d :: ds, xs, h => by
    cases d with
    | str x =>
      obtain ⟨ys, h1, h2⟩ := bind1 (show (strsOf ds).bind (fun xs => some (x :: xs)) = some xs from h)
      cases h2
      rw [strsOf_some h1]
      rfl
    | _ => cases h
theorem strsOf_map : ∀ xs : List Str, strsOf (xs.map .str) = some xs
  | [] => rfl
  | x :: xs => by
    show (strsOf (xs.map .str)).bind (fun ys => some (x :: ys)) = _
    rw [strsOf_map xs]
    rfl
theorem dp_strs {K : PySem.W.Frag} {H : Hp} : ∀ {vs : List V} {xs : List Str}, DpAll K H vs (xs.map .str) → vs = xs.map V.str
  | _, [], .nil => rfl
  | _, x :: xs, .cons h r => by
    cases h
    rw [dp_strs r]
    rfl
def sizeT (l : List Str) : PyData := .int (l.length : Nat)
def mSetOf (f : List Str → PyData) (m : En → Option PyData) : En → Option PyData := fun env => (m env).bind fun d => match d with
  | .list ds => (strsOf ds).bind fun xs => if xs.length < 64 then some (f (upTo xs xs.length)) else none
  | _ => none
section
variable {ι : Type} {X : ι → Cx} {K : PySem.W.Frag} {N : List Str} {k : Nat} {M : MM} {e : Expr} {te : TE} {me : En → Option PyData} {p p2 q pos : Pos}
theorem snd_setOf {R : List Str → Hp → VK → Prop} {f : List Str → PyData} (h : SndQ K M te me) (hR : ∀ l H O (Q : VK), (∀ b ∈ O, ∃ o, H b = some o) → (∀ v H2, ExT H H2 → Dp K (cut H2 O) v (f l) → Q v H2) → R l H Q) : Snd K M (tSetOf K te R) (mSetOf f me) := fun H0 O0 O σ H env d s hm Q q => by
  obtain ⟨d1, g1, g2⟩ := bind1 hm
  refine h H0 O0 O σ H env d1 s g1 _ fun v H1 e1 hv => ?_
  split at g2
  · obtain ⟨xs, g3, g4⟩ := bind1 g2
    obtain ⟨few, rfl⟩ := ite_some g4
    have := strsOf_some g3
    subst this
    obtain ⟨b, vs, rfl, there, all⟩ := hv.list
    have := dp_strs all
    subst this
    exact ⟨b, xs, rfl, there, few, hR _ H1 O Q (s.ex e1).there fun v H2 e2 hd => q v H2 (e1.trans e2) hd⟩
  · cases g2
theorem d_lenT (F : Fam X K N k) (h : MQ X K M e te me) (hm : ∀ i, (X i).mg "len" = none) (hm2 : ∀ i, (X i).mg "set" = none) (hg : ∀ i, Gl (X i) "len" := by exact fun _ => rfl) (hg2 : ∀ i, Gl (X i) "set" := by exact fun _ => rfl)
    (star : ∀ i, starEach [e] (X i).env = (false, eval e (X i).env) :: starEach [] (X i).env := by exact fun _ => rfl) :
    MD X K M (.Call (.Name "len" p) [.Call (.Name "set" p2) [e] [] q] [] pos) (tSetOf K te rLenT) (mSetOf sizeT me) := ⟨fun i => by
  have := pe_lenT (X := X i) (p := p) (p2 := p2) (q := q) (pos := pos) (F.calm i) (hg i) (hm i) (hg2 i) (hm2 i) (h.pe i) (star i)
  rw [F.hK i] at this
  exact this, snd_setOf h.sd fun l H O Q _ goal => goal _ H (ExT.refl H) (.int _)⟩
end
end Rv
namespace Rv
open PySem L2 PySem.Spec PyProof.Rows
variable [Lz]
def unKey : PyData → Option Key
  | .int i => some (.inl i)
  | .str x => some (.inr x)
  | _ => none
theorem unKey_some {d : PyData} {a : Key} (h : unKey d = some a) : d = keyD a := by
  cases d with
  | int i =>
    cases h
    rfl
  | str x =>
    cases h
    rfl
  | _ => cases h
theorem unKey_of (a : Key) : unKey (keyD a) = some a := by
  cases a <;> rfl
end Rv
namespace Rv
open PySem L2 PySem.Spec PyProof.Rows
variable [Lz]
def tabAt (tab : List (Str × PyData)) (z : Str) : Option PyData := (tab.find? fun e => decide (e.1 = z)).map Prod.snd
inductive EntD (K : PySem.W.Frag) : List DictEntry → List (Str × PyData) → Prop
  | nil : EntD K [] []
  | cons {h : Int} {x : Str} {t : Tok} {u : Value} {v : V} {d : PyData} {es : List DictEntry} {tab : List (Str × PyData)} : RelV v u → (∀ H, Dp K H v d) → EntD K es tab → EntD K (⟨h, .str x t, u⟩ :: es) ((x, d) :: tab)
section
variable {K : PySem.W.Frag}
theorem ent_find (z : Str) : ∀ {l : List DictEntry} {tab : List (Str × PyData)}, EntD K l tab → (tabAt tab z = none → l.find? (·.key.isStr z) = none) ∧ ∀ p, tabAt tab z = some p → ∃ en v, l.find? (·.key.isStr z) = some en ∧ RelV v en.val ∧ ∀ H, Dp K H v p
  | _, _, .nil => ⟨fun _ => rfl, fun p h => nomatch h⟩
  | _, _, @EntD.cons _ h x t u v d es tab rl dp r => by
    have ih := ent_find z r
    by_cases q : x = z
    · have e1 : tabAt ((x, d) :: tab) z = some d := by
        unfold tabAt
        rw [List.find?_cons]
        simp [q]
      have e2 : ((⟨h, .str x t, u⟩ : DictEntry) :: es).find? (·.key.isStr z) = some ⟨h, .str x t, u⟩ := by
        rw [List.find?_cons]
        show (match (x == z) with | true => _ | false => _) = _
        rw [beq_iff_eq.mpr q]
      rw [e1, e2]
      refine ⟨fun w => (nomatch w), fun p w => ?_⟩
      cases w
      exact ⟨_, v, rfl, rl, dp⟩
    · have e1 : tabAt ((x, d) :: tab) z = tabAt tab z := by
        unfold tabAt
        rw [List.find?_cons]
        simp [q]
      have e2 : ((⟨h, .str x t, u⟩ : DictEntry) :: es).find? (·.key.isStr z) = es.find? (·.key.isStr z) := by
        rw [List.find?_cons]
        show (match (x == z) with | true => _ | false => _) = _
        rw [beq_eq_false_iff_ne.mpr q]
      rw [e1, e2]
      exact ih
theorem ns_some {d : Addr} {es : Array DictEntry} {n : Nat} {tab : List (Str × PyData)} {z : Str} {p : PyData} (hl : K.lookup d = some ⟨.type "dict", none, .dict es n, #[]⟩) (h : EntD K es.toList tab) (hz : tabAt tab z = some p) : ∃ u v, PySem.W.nsIn K d z = some (some u) ∧ RelV v u ∧ ∀ H, Dp K H v p := by
  obtain ⟨en, v, e1, e2, e3⟩ := (ent_find z h).2 p hz
  refine ⟨en.val, v, ?_, e2, e3⟩
  unfold PySem.W.nsIn
  rw [hl]
  dsimp only
  rw [e1]
/-- a dict of the module, by its table -/
def KDt (K : PySem.W.Frag) (w : World) (d : Addr) (tab : List (Str × PyData)) : Prop := ∃ es n, KDict K w d es n ∧ EntD K es.toList tab
theorem ix_K {X : Cx} {w : World} (hK : X.K = K) (hw : X.w = w) : IxR X (rIxD K w) := by
  subst hK
  subst hw
  exact ix_kdict
end
def getTab (tab : List (Str × PyData)) : PyData → Option PyData
  | .str z => tabAt tab z
  | _ => none
section
variable {ι : Type} {X : ι → Cx} {K : PySem.W.Frag} {N : List Str} {k : Nat} {M : MM} {a b c e tg : Expr} {ta tb tc te : TE} {ma mb mc me : En → Option PyData} {pos : Pos}
theorem d_getK {w : World} {d : Addr} {tab : List (Str × PyData)} (F : Fam X K N k) (kd : KDt K w d tab) (ha : MD X K M a ta ma) (hp : ∀ i, PE (X i) b (tC (.ref d))) (hw : ∀ i, (X i).w = w := by exact fun _ => rfl) (hx : PlainIx a := by exact fun _ _ => rfl) :
    MD X K M (.Subscript b a pos) (tOp (rIxD K w) (tC (.ref d)) ta) (mUn (getTab tab) ma) := by
  obtain ⟨es, n, D, en⟩ := kd
  refine ⟨fun i => pe_ix (ix_K (F.hK i) (hw i)) (hp i) (ha.pe i) hx, fun H0 O0 O σ H env r s hmm Q q => ?_⟩
  obtain ⟨d1, h1, h2⟩ := bind1 hmm
  show ta σ H fun y H2 => rIxD K w (.ref d) y H2 Q
  refine ha.sd H0 O0 O σ H env d1 s h1 _ fun v H1 e1 hv => ?_
  cases d1 with
  | str z =>
    have ev : v = .str z := by
      cases hv
      rfl
    subst ev
    obtain ⟨u, v, n1, n2, n3⟩ := ns_some D.at_ en (show tabAt tab z = some r from h2)
    exact ⟨d, z, v, rfl, rfl, ⟨es, n, u, D.at_, D.lit, n1, n2⟩, q _ H1 e1 (n3 _)⟩
  | _ => cases h2
def mCount (ma mb : En → Option PyData) : En → Option PyData := fun env => (ma env).bind fun x => (mb env).bind fun y => match x, y with
  | .str x, .str y => some (.int (Txt.count x y))
  | _, _ => none
theorem d_count {p1 : Pos} (ha : MD X K M a ta ma) (hb : MD X K M b tb mb) (hs : ∀ i, starEach [b] (X i).env = [(false, eval b (X i).env)] := by exact fun _ => rfl) (hbase : ∀ i, attributeBase a "count" (X i).env (eval a (X i).env) = eval a (X i).env := by exact fun _ => rfl) (hline : (p1.endLine == pos.line) = true := by rfl) :
    MD X K M (.Call (.Attribute a "count" p1) [b] [] pos) (tM1 (fun x xs H Q => ∃ a b, x = .str a ∧ xs = [.str b] ∧ Q (.int (Txt.count a b)) H) ta tb) (mCount ma mb) := ⟨fun i => pe_m1 PySem.F.slot_str_count PySem.F.type_str_count mt_count (ha.pe i) (hb.pe i) (hs i) (hbase i) hline, fun H0 O0 O σ H env d s hmm Q q => by
  obtain ⟨x, y, h1, h2, h3⟩ := bind2 hmm
  refine ha.sd H0 O0 O σ H env x s h1 _ fun v H1 e1 hv => ?_
  cases hv with
  | str x =>
    refine ⟨⟨_, rfl⟩, hb.sd H0 O0 O σ H1 env y (s.ex e1) h2 _ fun w H2 e2 hw => ?_⟩
    cases hw with
    | str y =>
      cases h3
      exact ⟨x, y, rfl, rfl, q _ _ (e1.trans e2) (.int _)⟩
    | _ => cases h3
  | _ => cases h3⟩
end
end Rv
namespace Rv
open PySem L2 PySem.Spec PyProof.Rows
variable [Lz]
section
variable {ι : Type} {X : ι → Cx} {K : PySem.W.Frag} {N : List Str} {k : Nat} {M : MM} {a b c e tg : Expr} {ta tb tc te : TE} {ma mb mc me : En → Option PyData} {pos : Pos}
def hasK (es : List (PyData × PyData)) (key : Key) : Bool := es.any fun e => decide (unKey e.1 = some key)
def putDK (es : List (PyData × PyData)) (key : Key) (d : PyData) : List (PyData × PyData) :=
  if hasK es key = true then es.map (fun e => if unKey e.1 = some key then (e.1, d) else e) else es ++ [(keyD key, d)]
def valK (es : List (PyData × PyData)) (key : Key) : Option PyData := (es.find? fun e => decide (unKey e.1 = some key)).map Prod.snd
theorem unKey_iff {k1 key : Key} : unKey (keyD k1) = some key ↔ k1 = key := by
  rw [unKey_of]
  exact ⟨fun q => Option.some.inj q, fun q => by rw [q]⟩
theorem kvk_has {H : Hp} {key : Key} : ∀ {kvs : List (Key × V)} {es : List (PyData × PyData)}, KvK K H kvs es → (kvs.any fun kv => decide (kv.1 = key)) = hasK es key
  | _, _, .nil => rfl
  | _, _, .cons (key := k1) _ r => by
    unfold hasK
    rw [List.any_cons, List.any_cons, kvk_has r]
    have e : decide (k1 = key) = decide (unKey (keyD k1) = some key) := decide_eq_decide.mpr unKey_iff.symm
    show (decide (k1 = key) || _) = (decide (unKey (keyD k1) = some key) || _)
    rw [e]
    rfl
theorem kvk_repl {H : Hp} {key : Key} {v : V} {d : PyData} (hv : Dp K H v d) : ∀ {kvs : List (Key × V)} {es : List (PyData × PyData)}, KvK K H kvs es → KvK K H (kvs.map fun kv => if kv.1 = key then (kv.1, v) else kv) (es.map fun e => if unKey e.1 = some key then (e.1, d) else e)
  | _, _, .nil => .nil
  | _, _, .cons (key := k1) h r => by
    have ih := kvk_repl (key := key) hv r
    show KvK K H ((if k1 = key then _ else _) :: _) ((if unKey (keyD k1) = some key then _ else _) :: _)
    by_cases z : k1 = key
    · rw [if_pos z, if_pos (unKey_iff.mpr z)]
      exact .cons hv ih
    · rw [if_neg z, if_neg fun q => z (unKey_iff.mp q)]
      exact .cons h ih
theorem kvk_app {H : Hp} {key : Key} {v : V} {d : PyData} (hv : Dp K H v d) : ∀ {kvs : List (Key × V)} {es : List (PyData × PyData)}, KvK K H kvs es → KvK K H (kvs ++ [(key, v)]) (es ++ [(keyD key, d)])
  | _, _, .nil => .cons hv .nil
  | _, _, .cons h r => .cons h (kvk_app hv r)
theorem kvk_put {H : Hp} {key : Key} {v : V} {d : PyData} {kvs : List (Key × V)} {es : List (PyData × PyData)} (hv : Dp K H v d) (h : KvK K H kvs es) : KvK K H (putK kvs key v) (putDK es key d) := by
  unfold putK putDK
  rw [kvk_has h]
  by_cases z : hasK es key = true
  · rw [if_pos z, if_pos z]
    exact kvk_repl hv h
  · rw [if_neg z, if_neg z]
    exact kvk_app hv h
theorem kvk_val {H : Hp} {key : Key} : ∀ {kvs : List (Key × V)} {es : List (PyData × PyData)}, KvK K H kvs es → (valK es key = none → valV kvs key = none) ∧ ∀ d, valK es key = some d → ∃ v, valV kvs key = some v ∧ Dp K H v d
  | _, _, .nil => ⟨fun _ => rfl, fun d h => nomatch h⟩
  | _, _, @KvK.cons _ _ k1 v d kvs es h r => by
    have ih := kvk_val (key := key) r
    by_cases z : k1 = key
    · have e1 : valK ((keyD k1, d) :: es) key = some d := by
        unfold valK
        rw [List.find?_cons]
        have y : decide (unKey (keyD k1) = some key) = true := decide_eq_true (unKey_iff.mpr z)
        show (match decide (unKey (keyD k1) = some key) with | true => some (keyD k1, d) | false => _).map Prod.snd = _
        rw [y]
        rfl
      rw [e1, valV_pos z]
      refine ⟨fun w => (nomatch w), fun p w => ?_⟩
      cases w
      exact ⟨v, rfl, h⟩
    · have e1 : valK ((keyD k1, d) :: es) key = valK es key := by
        unfold valK
        rw [List.find?_cons]
        have y : decide (unKey (keyD k1) = some key) = false := decide_eq_false fun q => z (unKey_iff.mp q)
        show (match decide (unKey (keyD k1) = some key) with | true => some (keyD k1, d) | false => es.find? fun e => decide (unKey e.1 = some key)).map Prod.snd = _
        rw [y]
      rw [e1, valV_neg z]
      exact ih
/-- an address that is owned besides -/
theorem Sl.more {H0 H : Hp} {O0 O : List Addr} {σ : L2.St} {env : En} (s : Sl K M H0 O0 O σ H env) {p : Addr} {o : HO} (hp : H p = none) : Sl K M H0 O0 (p :: O) σ (upd H p o) env := by
  refine s.beside hp ?_ (ExT.new hp) ⟨_, upd_same⟩
  rw [cut_cons hp]
  exact Ex.refl _
inductive PrD (K : PySem.W.Frag) (H : Hp) : List (V × V) → List (Str × PyData) → Prop
  | nil : PrD K H [] []
  | cons {x : Str} {v : V} {d : PyData} {ps : List (V × V)} {r : List (Str × PyData)} : Dp K H v d → PrD K H ps r → PrD K H ((.str x, v) :: ps) ((x, d) :: r)
structure MP {ι : Type} (X : ι → Cx) (K : PySem.W.Frag) (M : MM) (pos : Pos) (keys : List (Option Expr)) (values : List Expr) (trs : List (TE × TE)) (m : En → Option (List (Str × PyData))) : Prop where
  pp : ∀ i, PPs (X i) pos keys values trs
  sd : ∀ H0 O0 O σ H env r, Sl K M H0 O0 O σ H env → m env = some r → ∀ Q : List (V × V) → Hp → Prop, (∀ ps H2, ExT H H2 → PrD K (cut H2 O) ps r → Q ps H2) → tPairs trs σ H Q
def mP0 : En → Option (List (Str × PyData)) := fun _ => some []
def mP1 (x : Str) (m : En → Option PyData) (r : En → Option (List (Str × PyData))) : En → Option (List (Str × PyData)) := fun env => (m env).bind fun d => (r env).bind fun ps => some ((x, d) :: ps)
theorem p_nil : MP X K M pos [] [] [] mP0 := ⟨fun _ => pps_nil, fun H0 O0 O σ H env r s hm Q q => by
  cases hm
  exact q [] H (ExT.refl H) .nil⟩
theorem p_cons {x : Str} {j : Nat} {p1 : Pos} {ks : List (Option Expr)} {vs : List Expr} {trs : List (TE × TE)} {mr : En → Option (List (Str × PyData))} (h : MD X K M e te me) (hr : MP X K M pos ks vs trs mr) :
    MP X K M pos (some (.Constant (.str x) j p1) :: ks) (e :: vs) ((tC (.str x), te) :: trs) (mP1 x me mr) := ⟨fun i => pps_cons pe_str (h.pe i) (hr.pp i), fun H0 O0 O σ H env r s hm Q q => by
  obtain ⟨d, ps, h1, h2, h3⟩ := bind2 hm
  cases h3
  show te σ H fun y H2 => tPairs trs σ H2 fun ps H3 => Q ((.str x, y) :: ps) H3
  refine h.sd H0 O0 O σ H env d s h1 _ fun v H1 e1 hv => ?_
  exact hr.sd H0 O0 O σ H1 env ps (s.ex e1) h2 _ fun ps2 H2 e2 hps => q _ H2 (e1.trans e2) (.cons (dp_ex (cut_mono e2) hv) hps)⟩
def mergeD (r : List (Str × PyData)) : List (PyData × PyData) := r.foldl (fun es p => putDK es (.inr p.1) p.2) []
theorem kvk_merge {H : Hp} : ∀ {ps : List (V × V)} {r : List (Str × PyData)}, PrD K H ps r → ∃ kvs : List (Key × V), ps = kvs.map (fun kv => (kV kv.1, kv.2)) ∧ kvs.length = r.length ∧ ∀ (kv0 : List (Key × V)) (es0 : List (PyData × PyData)), KvK K H kv0 es0 → KvK K H (mergeK kv0 kvs) (r.foldl (fun es p => putDK es (.inr p.1) p.2) es0)
  | _, _, .nil => ⟨[], rfl, rfl, fun _ _ h => h⟩
  | _, _, @PrD.cons _ _ x v d ps r hv h => by
    obtain ⟨kvs, e1, e2, e3⟩ := kvk_merge h
    refine ⟨(.inr x, v) :: kvs, by rw [e1]; rfl, by rw [List.length_cons, List.length_cons, e2], fun kv0 es0 h0 => ?_⟩
    exact e3 _ _ (kvk_put hv h0)
theorem dp_key {H : Hp} {v : V} {d : PyData} {key : Key} (h : Dp K H v d) (e : unKey d = some key) : v = kV key := by
  have := unKey_some e
  subst this
  cases key with
  | inl i =>
    cases h
    rfl
  | inr x =>
    cases h
    rfl
structure MDt {ι : Type} (X : ι → Cx) (K : PySem.W.Frag) (M : MM) (e : Expr) (t : TE) (m : En → Option PyData) : Prop where
  pe : ∀ i, PET (X i) e t
  sd : Snd K M t m
structure MAt {ι : Type} (X : ι → Cx) (K : PySem.W.Frag) (M : MM) (es : List Expr) (t : TA) (m : En → Option (List PyData)) : Prop where
  pa : ∀ i, PAT (X i) es t
  sd : SndA K M t m
structure MSt {ι : Type} (X : ι → Cx) (K : PySem.W.Frag) (M : MM) (st : Stmt) (t : TS) (m : En → Option Fl) : Prop where
  ps : ∀ i, PST (X i) st t
  sd : SndS K M t m
structure MSst {ι : Type} (X : ι → Cx) (K : PySem.W.Frag) (M : MM) (sts : List Stmt) (t : TS) (m : En → Option Fl) : Prop where
  ps : ∀ i, PSsT (X i) sts t
  sd : SndS K M t m
theorem dt_of (h : MD X K M e te me) : MDt X K M e te me := ⟨fun i pins s σ H Q _ I q => (h.pe i).run pins s σ H Q I q, h.sd⟩
theorem at_nil : MAt X K M [] tNil mNil := ⟨fun _ => pat_nil, a_nil (X := X).sd⟩
theorem at_cons {es : List Expr} {tr : TA} {mr : En → Option (List PyData)} (h : MDt X K M e te me) (hr : MAt X K M es tr mr) (hs : ∀ i, starEach (e :: es) (X i).env = (false, eval e (X i).env) :: starEach es (X i).env := by exact fun _ => rfl) : MAt X K M (e :: es) (tCons te tr) (mCons me mr) :=
  ⟨fun i => pat_cons (h.pe i) (hr.pa i) (hs i), fun H0 O0 O σ H env ds s hm Q q => by
    obtain ⟨d, r, h1, h2, h3⟩ := bind2 hm
    cases h3
    refine h.sd H0 O0 O σ H env d s h1 _ fun x H1 e1 hx => ?_
    exact hr.sd H0 O0 O σ H1 env r (s.ex e1) h2 _ fun xs H2 e2 hxs => q _ H2 (e1.trans e2) (.cons (dp_ex (cut_mono e2) hx) hxs)⟩
def mRepl (y z : Str) (m : En → Option PyData) : En → Option PyData := fun env => (m env).bind fun d => match d with
  | .str x => if x.length + (x.length + 1) * z.length ≤ 16777216 then some (.str (Txt.replace x y z)) else none
  | _ => none
theorem dt_repl {y z : Str} {j j2 : Nat} {c0 c1 p1 : Pos} (h : MD X K M a ta ma) (hyz : (y == z) = false := by decide)
    (hst : ∀ i, starEach [.Constant (.str y) j c0, .Constant (.str z) j2 c1] (X i).env = [(false, eval (.Constant (.str y) j c0) (X i).env), (false, eval (.Constant (.str z) j2 c1) (X i).env)] := by exact fun _ => rfl)
    (hbase : ∀ i, attributeBase a "replace" (X i).env (eval a (X i).env) = eval a (X i).env := by exact fun _ => rfl) (hline : (p1.endLine == pos.line) = true := by rfl) :
    MDt X K M (.Call (.Attribute a "replace" p1) [.Constant (.str y) j c0, .Constant (.str z) j2 c1] [] pos) (CwR.tReplC ta y z) (mRepl y z ma) := ⟨fun i => CwR.pet_replC (h.pe i) hyz (hst i) (hbase i) hline, fun H0 O0 O σ H env d s hm Q q => by
  obtain ⟨d1, h1, h2⟩ := bind1 hm
  refine h.sd H0 O0 O σ H env d1 s h1 _ fun v H1 e1 hv => ?_
  cases hv with
  | str x =>
    obtain ⟨hz, rfl⟩ := ite_some h2
    exact ⟨x, rfl, hz, q _ H1 e1 (.str _)⟩
  | _ => cases h2⟩
theorem dt_call {j : Nat} {f : Addr} {fd : FuncData} {ps : List Str} {x : Str} {p : Pos} {es : List Expr} {fn : List PyData → Option PyData} {t : TA} {ms : En → Option (List PyData)} (G : ∀ i, FnOk (X i).prog (X i).w (X i).K (X i).mg (X i).base CX0 j f fd ps (spD K M.J ps.length fn)) (hr : ∀ i, Room j (X i).A)
    (hm : ∀ i, (X i).mg x = some (.ref f)) (hk : ∀ i, PySem.W.keepIn (X i).K (.ref f) = true) (hb : ∀ i, Binds (X i).K fd ps []) (h : MAt X K M (e :: es) t ms) (hl : ∀ env ds, ms env = some ds → ds.length = ps.length)
    (hg : ∀ i, Gl (X i) x := by exact fun _ => rfl) (hdb : (x == ("__debug__" : Str)) = false := by decide) (he : ∀ i, starEach (e :: es) (X i).env = (false, eval e (X i).env) :: starEach es (X i).env := by exact fun _ => rfl) (hpl : ∀ i, (backTo pos (starEach es (X i).env)).any (·.1) = false := by exact fun _ => rfl) :
    MDt X K M (.Call (.Name x p) (e :: es) [] pos) (tCall (spD K M.J ps.length fn) [] E0 t) (mCB fn ms) :=
  ⟨fun i pins s σ H Q h0 I q => wpAny_Call_Name_kw (ld_glob I (hg i) (hm i) (PySem.W.callWith_K (h₀ := (X i).base) I.ok.mod.kin (hk i) (thn (h.pa i pos pins s σ H _ h0 I q) fun us s1 got => by
    obtain ⟨vs, H1, I1, r, q1⟩ := got
    exact ⟨I1.kIn, run_fn (G i) (hr i) (hb i) .nil pass0 I1 r q1⟩) (he i) (hpl i)) hdb), fun H0 O0 O σ H env d s hmm Q q => by
    obtain ⟨ds, h1, h2⟩ := bind1 hmm
    refine h.sd H0 O0 O σ H env ds s h1 _ fun vs H1 e1 hv => ?_
    refine ⟨ds, d, O, M.mono _ _ (s.ext.trans e1) s.inv, by rw [List.append_nil, dpAll_len hv]; exact hl env ds h1, (s.ex e1).there, by rw [List.append_nil]; exact hv, h2, fun v H2 e2 h3 => q v H2 (e1.trans e2) h3⟩⟩
theorem st_of {st : Stmt} {t : TS} {m : En → Option Fl} (h : MS X K M st t m) : MSt X K M st t m := ⟨fun i pins s σ H D _ I q => (h.ps i).run pins s σ H D I q, h.sd⟩
theorem st_set (F : Fam X K N k) (i : Nat) {x : Str} {pos' : Pos} (h : MDt X K M e te me) (hi : i ∉ M := by first | decide | exact mmOut rfl) (hx : N[i]? = some x := by rfl) (hl : ∀ j, Loc (X j).env.scope x := by first | exact fun _ => Or.inl rfl | exact fun _ => Or.inr rfl) (hs : ∀ j, swapsWith e (some (.Name x pos')) pos.line (X j).env = pure false := by exact fun _ => rfl)
    (hf : ∀ j, (X j).fn x = true ∨ (X j).env.scope.names.lookup x = some .local := by first | exact fun _ => .inl rfl | exact fun _ => .inr rfl) : MSt X K M (.Assign [.Name x pos'] e pos) (tAsg te (gName i)) (mAsg me (gB i)) :=
  ⟨fun j pins s σ H D h0 I q => wpAny_Assign_Name (thn (h.pe j pins s σ H _ h0 I q) fun v s1 got => by
    obtain ⟨y, H1, I1, r1, q1⟩ := got
    exact store_ok I1 (by rw [F.hN j]; exact F.nd) (by rw [F.hN j]; exact hx) (hl j) r1 (fun s2 I2 => ⟨_, H1, I2, q1⟩) (hf j)) (hs j), snd_asg h.sd fun H0 O0 O σ H env d env' v s hv hb Q q => by
    cases hb
    exact q _ (s.set hi hv)⟩
theorem st_if {t : TT} {u w : TS} {m : En → Option Bool} {n p : En → Option Fl} {bs cs : List Stmt} (hc : MT X K M c t m) (ha : MSst X K M bs u n) (hb : MSst X K M cs w p) : MSt X K M (.If c bs cs pos) (tIfS t u w) (mIfS m n p) := ⟨fun i => CwR.pst_if (hc.pt i) (ha.ps i) (hb.ps i), fun H0 O0 O σ H env fl D s hm q => by
  obtain ⟨x, g1, g2⟩ := bind1 hm
  refine hc.sd H0 O0 O σ H env x s g1 _ fun H1 e1 => ?_
  cases x with
  | true =>
    rw [if_pos rfl] at g2 ⊢
    exact ha.sd H0 O0 O σ H1 env fl D (s.ex e1) g2 (q.weaken (cut_mono e1))
  | false =>
    rw [if_neg Bool.false_ne_true] at g2 ⊢
    exact hb.sd H0 O0 O σ H1 env fl D (s.ex e1) g2 (q.weaken (cut_mono e1))⟩
theorem sst_nil : MSst X K M [] tNext mNext := ⟨fun _ => CwR.psst_nil, ss_nil (X := X).sd⟩
theorem sst_one {st : Stmt} {t : TS} {m : En → Option Fl} (h : MSt X K M st t m) : MSst X K M [st] t m := ⟨fun i => by
  intro pins s σ H D h0 I q
  refine wpAny_execs_cons (wpAny_mono (h.ps i pins s σ H D h0 I q) (fun f s1 z => ?_) fun _ _ z => z)
  cases f with
  | next =>
    obtain ⟨σ', H', I', z⟩ := z
    exact wpAny_execs_nil ⟨σ', H', I', z⟩
  | ret v => exact z
  | brk => exact z
  | cont => exact z, h.sd⟩
theorem sst_cons {st : Stmt} {rest : List Stmt} {t u : TS} {m n : En → Option Fl} (h1 : MSt X K M st t m) (h2 : MSst X K M rest u n) : MSst X K M (st :: rest) (tSeq t u) (mSeq m n) := ⟨fun i => psst_cons (h1.ps i) (h2.ps i), snd_seq h1.sd h2.sd⟩
section
variable {P : Program} {w : World} {mg : Str → Option Value} {base : Heap}
theorem fn_dataT {x qual : Str} {st : Stmt} {f : Addr} {fd : FuncData} {ps : List Str} {j : Nat} {t : TS} {m : En → Option Fl} (F : Fun K x qual st f fd) (S : FnScope N ps (defScope st)) (nocell : ∀ y ∈ (defScope st).names, y.2 ≠ .cell) (some_ : 1 ≤ ps.length) (hM : ∀ i ∈ M, ps.length ≤ i) (h : MSst (defF P w K mg base N qual (defScope st) f j) K M (defBody st) t m) :
    FnOk P w K mg base CX0 (j + 1) f fd ps (spD K M.J ps.length (runB N.length m)) := by
  (obtain ⟨oc, od, kV, doc, pm, an, cdv, ct, osl, rfl, lk, hcd⟩ := F.ex)
  refine fn_ofT lk hcd S nocell some_ (fun vs H Q E hq => ?_) fun A outer s H vs Q E hr hq => ?_
  · obtain ⟨ds, d, O, _, hl, _⟩ := hq
    exact hl
  · obtain ⟨ds, d, O, hJ, hl, ht, hv, hf, q⟩ := hq
    refine ⟨t, fun pins s2 σ2 H2 D h0 I hw => wpAny_mono (h.ps ⟨⟨cdv, A, outer, s, H, E⟩, hr⟩ pins s2 σ2 H2 D h0 (I.wish _) hw) (fun _ _ z => z.unwish) fun _ _ z => z.elim, ?_⟩
    obtain ⟨fl, g1, g2⟩ := bind1 hf
    refine h.sd H O O _ H _ fl _ (start_sl (n := N.length) hJ ht hv (by rw [hl]; exact hM)) g1 ?_
    cases fl with
    | nx env =>
      cases g2
      exact fun σ' H' O' s' _ => q _ H' s'.ext .non
    | rt r =>
      cases g2
      exact fun v H' e hv => q v H' e hv
    | bk env => cases g2
    | ct env => cases g2
end
end
end Rv
namespace Rv
open PySem L2 PySem.Spec PyProof.Rows
variable [Lz]
/-- how a block goes on, raising too: the class's name, and the slots then -/
inductive Fx where
  | fl (f : Fl) | xc (c : Str) (env : En)
def ContX (K : PySem.W.Frag) (M : MM) (mg : Str → Option Value) (H0 : Hp) (O0 O : List Addr) (H : Hp) (D : Ends) (W : WX) : Fx → Prop
  | .fl f => Cont K M H0 O0 O H D f
  | .xc c env => ∀ C σ' H' O', mg c = some (.ref C) → Sl K M H0 O0 O' σ' H' env → Ex (cut H O) (cut H' O') → W (.ref C) none σ' H'
def SndX (K : PySem.W.Frag) (M : MM) (mg : Str → Option Value) (t : WX → TS) (m : En → Option Fx) : Prop :=
  ∀ W H0 O0 O σ H env fx D, Sl K M H0 O0 O σ H env → m env = some fx → ContX K M mg H0 O0 O H D W fx → t W D σ H
structure MX {ι : Type} (X : ι → Cx) (W : ι → WX) (K : PySem.W.Frag) (mg : Str → Option Value) (M : MM) (st : Stmt) (t : WX → TS) (m : En → Option Fx) : Prop where
  ps : ∀ i, PS (X i) st (t (W i))
  sd : SndX K M mg t m
structure MXs {ι : Type} (X : ι → Cx) (W : ι → WX) (K : PySem.W.Frag) (mg : Str → Option Value) (M : MM) (sts : List Stmt) (t : WX → TS) (m : En → Option Fx) : Prop where
  ps : ∀ i, PSs (X i) sts (t (W i))
  sd : SndX K M mg t m
def mFl (m : En → Option Fl) : En → Option Fx := fun env => (m env).bind fun f => some (.fl f)
section
variable {ι : Type} {X : ι → Cx} {W : ι → WX} {K : PySem.W.Frag} {mg : Str → Option Value} {N : List Str} {k : Nat} {M : MM} {a b c e tg : Expr} {ta tb tc te : TE} {ma mb mc me : En → Option PyData} {pos : Pos}
theorem snd_fl {t : TS} {m : En → Option Fl} (h : SndS K M t m) : SndX K M mg (fun _ => t) (mFl m) := fun W H0 O0 O σ H env fx D s hm q => by
  obtain ⟨f, g1, g2⟩ := bind1 hm
  cases g2
  exact h H0 O0 O σ H env f D s g1 q
theorem x_of {st : Stmt} {t : TS} {m : En → Option Fl} (h : MS X K M st t m) : MX X W K mg M st (fun _ => t) (mFl m) := ⟨fun i => h.ps i, snd_fl h.sd⟩
theorem ContX.weaken {H0 H H1 : Hp} {O0 O O1 : List Addr} {D : Ends} {V : WX} {fx : Fx} (e : Ex (cut H O) (cut H1 O1)) (h : ContX K M mg H0 O0 O H D V fx) : ContX K M mg H0 O0 O1 H1 D V fx := by
  cases fx with
  | fl f => exact Cont.weaken e h
  | xc c env => exact fun C σ' H' O' g s x => h C σ' H' O' g s (e.trans x)
theorem xs_one {st : Stmt} {t : WX → TS} {m : En → Option Fx} (h1 : MX X W K mg M st t m) : MXs X W K mg M [st] t m := ⟨fun i => pss_one (h1.ps i), h1.sd⟩
def mIfX (m : En → Option Bool) (n p : En → Option Fx) : En → Option Fx := fun env => (m env).bind fun b => if b = true then n env else p env
def spX (K : PySem.W.Frag) (J : Hp → Prop) (mg : Str → Option Value) (n : Nat) (f : List PyData → Option (PyData ⊕ Str)) : Sp := fun vs H Q E => ∃ ds r O, J H ∧ vs.length = n ∧ (∀ l ∈ O, ∃ o, H l = some o) ∧ DpAll K (cut H O) vs ds ∧ f ds = some r ∧
  (∀ d, r = .inl d → ∀ v H2, ExT H H2 → Dp K (cut H2 O) v d → Q v H2) ∧ (∀ cn, r = .inr cn → ∀ C H2, mg cn = some (.ref C) → ExT H H2 → E (.ref C) none H2)
def mCX (f : List PyData → Option (PyData ⊕ Str)) (ms : En → Option (List PyData)) (g : PyData → En → Option Fl) : En → Option Fx := fun env => (ms env).bind fun ds => (f ds).bind fun r => match r with
  | .inl d => (g d env).bind fun fl => some (.fl fl)
  | .inr c => some (.xc c env)
theorem snd_callX {n : Nat} {fn : List PyData → Option (PyData ⊕ Str)} {t : TA} {ms : En → Option (List PyData)} {g : PyData → En → Option Fl} {T : TE → TS} (h : SndA K M t ms) (hl : ∀ env ds, ms env = some ds → ds.length = n)
    (hT : ∀ (u : TE) (D : Ends) (σ : L2.St) (H : Hp), (u σ H fun v H1 => T (fun σ' H' Q => Q v H') D σ H1) → T u D σ H)
    (hg : ∀ H0 O0 O σ H env d v fl D, Sl K M H0 O0 O σ H env → Dp K (cut H O) v d → g d env = some fl → Cont K M H0 O0 O H D fl → T (fun σ' H' Q => Q v H') D σ H) :
    SndX K M mg (fun V => T (tCallS (spX K M.J mg n fn) (WE V) t)) (mCX fn ms g) := fun V H0 O0 O σ H env fx D s hm q => by
  obtain ⟨ds, g1, g2⟩ := bind1 hm
  obtain ⟨r, g3, g4⟩ := bind1 g2
  refine hT _ D σ H ?_
  refine h H0 O0 O σ H env ds s g1 _ fun vs H1 e1 hv => ?_
  refine ⟨ds, r, O, M.mono _ _ (s.ext.trans e1) s.inv, by rw [dpAll_len hv]; exact hl env ds g1, (s.ex e1).there, hv, g3, fun d er v H2 e2 hd => ?_, fun cn er C H2 hC e2 => ?_⟩
  · subst er
    obtain ⟨fl, g5, g6⟩ := bind1 g4
    cases g6
    exact hg H0 O0 O σ H2 env d v fl D ((s.ex e1).ex e2) hd g5 (Cont.weaken (cut_mono (e1.trans e2)) q)
  · subst er
    cases g4
    exact q C σ H2 O hC ((s.ex e1).ex e2) (cut_mono (e1.trans e2))
theorem pe_callX {j : Nat} {f : Addr} {fd : FuncData} {ps : List Str} {x : Str} {p : Pos} {es : List Expr} {fn : List PyData → Option (PyData ⊕ Str)} {t : TA} {ms : En → Option (List PyData)} (G : ∀ i, FnOk (X i).prog (X i).w (X i).K (X i).mg (X i).base (L2N.CX (X i).prog (X i).w) j f fd ps (spX K M.J mg ps.length fn)) (hr : ∀ i, Room j (X i).A) (tk : ∀ i, L2N.Takes (X i) (W i))
    (hm : ∀ i, (X i).mg x = some (.ref f)) (hk : ∀ i, PySem.W.keepIn (X i).K (.ref f) = true) (hb : ∀ i, Binds (X i).K fd ps []) (h : MA X K M (e :: es) t ms)
    (hg : ∀ i, Gl (X i) x := by exact fun _ => rfl) (hdb : (x == ("__debug__" : Str)) = false := by decide) (he : ∀ i, starEach (e :: es) (X i).env = (false, eval e (X i).env) :: starEach es (X i).env := by exact fun _ => rfl) (hpl : ∀ i, (backTo pos (starEach es (X i).env)).any (·.1) = false := by exact fun _ => rfl) :
    ∀ i, PE (X i) (.Call (.Name x p) (e :: es) [] pos) (tCallS (spX K M.J mg ps.length fn) (WE (W i)) t) := fun i => pe_callS (G i) (hr i) (hg i) (hm i) (hk i) (hb i) (fun σ => L2N.passAt (tk i) σ) (h.pa i) hdb (he i) (hpl i)
end
section
variable {P : Program} {w : World} {K : PySem.W.Frag} {mg : Str → Option Value} {base : Heap} {N : List Str} {M : MM}
abbrev defX (P : Program) (w : World) (K : PySem.W.Frag) (mg : Str → Option Value) (base : Heap) (N : List Str) (qual : Str) (sc : Scope) (f : Addr) (j : Nat) : {p : DI // Room j (p.A.deeper (envOfC qual sc p.s.heap.objs.size f p.cdv))} → Cx := fun p => cxOf (L2N.CX P w) P w K mg base N qual sc f p.1.cdv p.1.A p.1.outer p.1.s p.1.H p.1.E
abbrev defW {qual : Str} {sc : Scope} {f : Addr} {j : Nat} : {p : DI // Room j (p.A.deeper (envOfC qual sc p.s.heap.objs.size f p.cdv))} → WX := fun p cls d _ H => p.1.E cls d H
theorem defX_fam {qual : Str} {sc : Scope} {f : Addr} {j : Nat} (nd : N.Nodup) : Fam (defX P w K mg base N qual sc f j) K N j := ⟨fun _ => rfl, fun _ => rfl, fun p => p.2, fun _ => rfl, nd⟩
theorem defX_tk {qual : Str} {sc : Scope} {f : Addr} {j : Nat} : ∀ i, L2N.Takes (defX P w K mg base N qual sc f j i) (defW i) := fun i => L2N.takes_of rfl rfl rfl rfl
/-- a def that may raise, by its body -/
theorem okXN {x qual : Str} {st : Stmt} {f : Addr} {fd : FuncData} {ps : List Str} {k : Nat} {sp : Sp} (F : Fun K x qual st f fd) (S : FnScope N ps (defScope st)) (len : ∀ vs H Q E, sp vs H Q E → vs.length = ps.length)
    (hb : ∀ (cdv : Value) (A : Around) (outer : List Env) (s : Shared) (H : Hp) (vs : List V) (Q : VK) (E : XK), Room k (A.deeper (envOfC qual (defScope st) s.heap.objs.size f cdv)) → sp vs H Q E →
      ∃ t, PSs (cxOf (L2N.CX P w) P w K mg base N qual (defScope st) f cdv A outer s H E) (defBody st) t ∧ t { nx := fun _ H' => Q .non H', rt := Q } (L2.start N vs) H) : FnOk P w K mg base (L2N.CX P w) (k + 1) f fd ps sp := by
  (obtain ⟨oc, od, kV, doc, pm, an, cdv, ct, osl, rfl, lk, hcd⟩ := F.ex)
  exact fn_of lk hcd S len fun A outer s H vs Q E hr hsp => hb cdv A outer s H vs Q E hr hsp
end
end Rv
namespace Rv
open PySem L2 PySem.Spec PyProof.Rows
variable [Lz]
theorem line_two : [V.str (Str.ofString ""), V.bl true].length ≤ sizeLine := Nat.le_trans (show 2 ≤ 100000 by decide) (by decide)
end Rv
namespace Rv
open PySem L2 PySem.Spec PyProof.Rows
variable [Lz]
section
open HotX
variable {P : Program} {w : World} {A : Around} {s : Shared} {E : Value → Shared → Prop}
/-- the new error that ends a walk: where it lies, and that all else stays -/
theorem stop_new {Q : Value → Shared → Prop} (goal : ∀ (a : Addr) (g : Heap) (oe : Obj) (vs : Array Value), (∀ b o, s.heap.get? b = some o → g.get? b = some o ∧ b ≠ a) → g.get? a = some oe → oe.cls = .type "StopIteration" → oe.data = .fields vs → 2 < vs.size → Q (.ref a) { s with heap := g }) :
    wpAny (model P w) A (newExc (.type "StopIteration") []) Q E s := by
  unfold newExc newTuple
  refine wpAny_bind (wpAny_newObj_type (wpAny_bind (m := firstArgMember _ _) (wpAny_of_eq (a := Value.none) rfl (wpAny_newObj_type ?_ (by size_fits)))) (by size_fits))
  refine goal _ _ _ _ (fun b o e => ?_) (Heap.get?_push_size _ rfl) rfl rfl (by simp; omega)
  have two := Heap.get?_push_of_some { cls := Value.type "tuple", data := Data.seq ([] : List Value).toArray } e
  exact ⟨Heap.get?_push_of_some _ two, Nat.ne_of_lt (Heap.lt_size two)⟩
/-- it is raised with the handled error as its context -/
theorem stop_hot {α : Type} {x1 : Addr} {Q : α → Shared → Prop} (hot : HotAt A x1 s.heap)
    (goal : ∀ (a : Addr) (g : Heap), (∀ b o, s.heap.get? b = some o → g.get? b = some o) → ({ s with heap := g } : Shared).TypeIs (.ref a) "StopIteration" → E (.ref a) { s with heap := g }) :
    wpAny (model P w) A (Builtin.SmallTypes.stopIteration : Sem α) Q E s := by
  obtain ⟨hh, o1, vs1, b1, c1, d1⟩ := hot
  unfold Builtin.SmallTypes.stopIteration
  refine wpAny_bind (stop_new fun a g oe vs keep at_ cls dat big => ?_)
  obtain ⟨ce, de, fe, se⟩ := oe
  cases dat
  cases cls
  refine raiseNew_hot (x1 := x1) ⟨hh, o1, vs1, (keep _ _ b1).1, c1, d1⟩ (keep _ _ b1).2 at_ rfl big (goal a _ (fun b o e => ?_) ⟨_, Heap.get?_update_self _ at_ rfl, rfl⟩)
  exact (Heap.get?_update_other _ _ (Ne.symm (keep _ _ e).2)).trans (keep _ _ e).1
/-- the handled error is no iterator: an iterator has two fields -/
theorem hot_away {x1 it : Addr} {o : Obj} {u v : Value} (hot : HotAt A x1 s.heap) (at_ : s.heap.get? it = some o) (dat : o.data = .fields #[u, v]) : x1 ≠ it := fun z => by
  obtain ⟨_, o1, vs1, b1, c1, d1⟩ := hot
  rw [z, at_] at b1
  cases b1
  rw [dat] at c1
  cases c1
  simp at d1
/-- what is known of the handled error stays while other objects change -/
theorem hot_stay {h h2 : Heap} {x1 : Addr} (hot : HotAt A x1 h) (keep : ∀ o, h.get? x1 = some o → h2.get? x1 = some o) : HotAt A x1 h2 := by
  obtain ⟨a, o1, vs1, b, c, d⟩ := hot
  exact ⟨a, o1, vs1, keep _ b, c, d⟩
theorem next_list_hot {it l x1 : Addr} {i : Nat} {items : Array Value} {Q : Option Value → Shared → Prop} (hot : HotAt A x1 s.heap) (hit : s.heap.IsListIter it l i) (hl : s.heap.IsList l items) (hx : items[i]? = none)
    (goal : ∀ h2, Heap.ExtBut it s.heap h2 → Q none { s with heap := h2 }) : wpAny (model P w) A (pyNext (.ref it)) Q E s := by
  obtain ⟨oi, at1, c1, f1⟩ := id hit
  obtain ⟨os, at2, c2, n2, f2⟩ := hl
  have same := Heap.SameBut.update s.heap it (Obj.mapFields (·.setIfInBounds 0 .none))
  unfold pyNext
  refine wpAny_bind (wpAny_attempt (wpAny_callSpecial?_slot (name := Str.ofString "__next__") hit.typeIs slot_listiter_next (wpAny_call_entry slot_listiter_next hit.typeIs entry_listiter_next ?_ (args_listiter_next _))))
  refine (show wpAny _ _ (field (.ref _) 0 >>= _) _ _ _ from wpAny_bind (wpAny_field at1 f1 rfl ?_))
  refine (show wpAny _ _ (ite ((Value.ref _ == Value.none) = true) _ _) _ _ _ from (if_neg Bool.false_ne_true).symm ▸ ?_)
  refine (show wpAny _ _ (field (.ref _) 1 >>= _) _ _ _ from wpAny_bind (wpAny_field at1 f1 rfl ?_))
  refine (show wpAny _ _ (seqItems? (.ref _) >>= _) _ _ _ from wpAny_bind (wpAny_seqItems at2 f2 ?_))
  simp only [hx, Int.toNat_natCast]
  refine wpAny_bind (wpAny_rule (wpAny_bind (wpAny_setField at1 f1 (by simp) ?_)))
  refine stop_hot (hot_stay hot fun o e => (same.2 x1 (hot_away hot at1 f1)).trans e) fun a g keep ty => ?_
  exact wpAny_bind (wpAny_isInstance (b := true) ty isSubtype_stop (wpAny_pure (goal g fun b o hb e => keep b o ((same.2 b hb).trans e))))
theorem next_tup_hot {it l x1 : Addr} {i : Nat} {items : Array Value} {Q : Option Value → Shared → Prop} (hot : HotAt A x1 s.heap) (hit : IsTupIter s.heap it l i) (hl : IsTup s.heap l items) (hx : items[i]? = none)
    (goal : ∀ h2, Heap.ExtBut it s.heap h2 → Q none { s with heap := h2 }) : wpAny (model P w) A (pyNext (.ref it)) Q E s := by
  obtain ⟨oi, at1, c1, f1⟩ := id hit
  obtain ⟨os, at2, c2, n2, f2⟩ := hl
  have same := Heap.SameBut.update s.heap it (Obj.mapFields (·.setIfInBounds 0 .none))
  unfold pyNext
  refine wpAny_bind (wpAny_attempt (wpAny_callSpecial?_slot (name := Str.ofString "__next__") hit.typeIs slot_tupleiter_next (wpAny_call_entry slot_tupleiter_next hit.typeIs entry_tupleiter_next ?_ (args_tupleiter_next _))))
  refine (show wpAny _ _ (field (.ref _) 0 >>= _) _ _ _ from wpAny_bind (wpAny_field at1 f1 rfl ?_))
  refine (show wpAny _ _ (ite ((Value.ref _ == Value.none) = true) _ _) _ _ _ from (if_neg Bool.false_ne_true).symm ▸ ?_)
  refine (show wpAny _ _ (field (.ref _) 1 >>= _) _ _ _ from wpAny_bind (wpAny_field at1 f1 rfl ?_))
  refine (show wpAny _ _ (seqItems? (.ref _) >>= _) _ _ _ from wpAny_bind (wpAny_seqItems at2 f2 ?_))
  simp only [hx, Int.toNat_natCast]
  refine wpAny_bind (wpAny_rule (wpAny_bind (wpAny_setField at1 f1 (by simp) ?_)))
  refine stop_hot (hot_stay hot fun o e => (same.2 x1 (hot_away hot at1 f1)).trans e) fun a g keep ty => ?_
  exact wpAny_bind (wpAny_isInstance (b := true) ty isSubtype_stop (wpAny_pure (goal g fun b o hb e => keep b o ((same.2 b hb).trans e))))
/-- all items of a tuple drawn, and that there are no more -/
theorem drawn_hot {t x1 : Addr} {items : Array Value} {Q : List Value → Shared → Prop} (hot : HotAt A x1 s.heap) (ht : IsTup s.heap t items) (goal : ∀ h2, Heap.ExtBut s.heap.objs.size s.heap h2 → Q items.toList { s with heap := h2 }) :
    wpAny (model P w) A (unpackItems (.ref t) items.size none) Q E s := by
  have old : ∀ {b : Addr} {o : Obj}, s.heap.get? b = some o → b ≠ s.heap.objs.size := fun e => Nat.ne_of_lt (Heap.lt_size e)
  have away : t ≠ s.heap.objs.size := old (id ht).choose_spec.1
  have far : x1 ≠ s.heap.objs.size := old hot.2.choose_spec.choose_spec.1
  unfold unpackItems notIterableAtAll
  refine wpAny_bind (wpAny_bind (wpAny_specialOf ht.typeIs slot_tuple_iter.lookup (wpAny_pure ?_)))
  rw [if_neg (by simp)]
  refine wpAny_bind (wpAny_holding (iter_tuple ht (wpAny_bind (wpAny_holding (draw_tuple away items.size 0 _ _ ⟨_, Heap.get?_push_size _ rfl, rfl, rfl⟩ (ht.push _) (by omega) fun g1 it1 same => ?_)))))
  have all_ : (items.toList.drop 0).take items.size = items.toList := by rw [List.drop_zero, ← Array.length_toList, List.take_length]
  have keep1 : ∀ b o, b ≠ s.heap.objs.size → s.heap.get? b = some o → g1.get? b = some o := fun b o hb e => same.extBut b o hb (Heap.get?_push_of_some _ e)
  rw [all_, if_neg (by simp)]
  refine wpAny_bind (wpAny_holding (next_tup_hot (s := { s with heap := g1 }) (hot_stay hot fun o => keep1 x1 o far) it1 ((ht.push _).extBut same.extBut away) (by simp) fun g2 same2 => ?_))
  rw [if_neg (by simp)]
  exact wpAny_pure (goal g2 fun b o hb e => same2 b o hb (keep1 b o hb e))
theorem unpack_hot {t x1 : Addr} {items : Array Value} {targets : List (Bool × (Value → Sem Unit))} {Q : Unit → Shared → Prop} (hot : HotAt A x1 s.heap) (ht : IsTup s.heap t items) (hn : targets.length = items.size) (hstar : targets.findIdx? (·.1) = none)
    (goal : ∀ h2, Heap.ExtBut s.heap.objs.size s.heap h2 → wpAny (model P w) A (assignInOrder (targets.map (·.2)) items.toList) Q E { s with heap := h2 }) : wpAny (model P w) A (unpack (.ref t) targets) Q E s := by
  unfold unpack
  rw [hstar, hn]
  exact wpAny_bind (wpAny_holding (drawn_hot hot ht goal))
end
section
variable {X : Cx} {tg : Expr} {pos : Pos}
theorem pg_tupH {es : List Expr} {k n : Nat} {t : TGs} (hc : L2H.HotC X) (h : PGs X es t) (hn : (assignEach es X.env).length = n := by rfl) (hst : (assignEach es X.env).findIdx? (·.1) = none := by rfl) : PG X (.Tuple es k pos) (gTup X.K n t) := ⟨fun pins s σ H v u Q I r wish => by
  obtain ⟨a, xs, rfl, hq, hl, wish⟩ := wish
  cases r
  obtain ⟨us, rel, is_, _⟩ := I.tuple hq
  obtain ⟨x1, hot⟩ := hc.at I
  rw [assign_Tuple]
  refine wpAny_bind (wpAny_standAt (unpack_hot hot is_ (by simp [hn, ← hl, rel.length]) hst fun h2 ext => ?_))
  exact h.run pins _ σ H xs _ Q (I.kept (t' := s.toks) fun b o e => ext b o (Nat.ne_of_lt (Heap.lt_size e)) e) (by simpa using rel) wish⟩
/-- a list's iterator, asked while an error is handled -/
theorem turn_listH {P : Program} {w : World} {K : PySem.W.Frag} (a it : Addr) : L2H.TurnH P w K tg (Itl K a) [it] it (fun i h => h.IsListIter it a i) := by
  have one : ∀ {b : Addr}, b ∈ [it] → b = it := fun h => List.mem_singleton.mp h
  refine ⟨List.mem_singleton.mpr rfl, fun i h st b hb => ?_, fun i h h2 st k => st.at fun o e => k it (List.mem_singleton.mpr rfl) o e, ?_, ?_, fun _ _ _ _ _ st go => wpAny_pyIter_listiter st go⟩
  · obtain ⟨o, at_, cls, dat⟩ := st
    refine ⟨o, by rw [one hb]; exact at_, fun v z => ?_⟩
    rw [dat] at z
    cases z
  · rintro X rfl rfl rfl hc i pins s σ H E I away st ⟨xs, x, hq, hx⟩
    obtain ⟨us, rel, lay, _⟩ := I.list hq
    obtain ⟨u, hu, ru⟩ := rel.get hx
    have f := away it (List.mem_singleton.mpr rfl)
    refine wpAny_pyNext_list_item st lay.isList (x := u) (by simpa using hu) fun h2 st2 same => ?_
    obtain ⟨o, at_, cls, dat⟩ := id st2
    have I2 : Inv X pins σ H { s with heap := h2 } := I.turned (t' := s.toks) (fun b o hb e => (same.2 b hb).trans e) f.1 f.2.1 f.2.2.2.1 f.2.2.2.2.1 f.2.2.2.2.2
    exact ⟨u, rfl, go_of (s := { s with heap := h2 }) at_ cls dat (by decide) ⟨x, H, I2, ru, ⟨rfl, fun ys hy => (I.list_inj hy hq).symm ▸ hx⟩, st2, fun b hb => (away b hb).1⟩⟩
  · rintro X rfl rfl rfl hc i pins s σ H E I away st ⟨xs, hq, hx⟩
    obtain ⟨us, rel, lay, _⟩ := I.list hq
    obtain ⟨x1, hot⟩ := hc.at I
    have f := away it (List.mem_singleton.mpr rfl)
    have len := rel.length
    exact next_list_hot hot st lay.isList (by simp; omega) fun h2 ext => ⟨rfl, I.turned (t' := s.toks) (fun b o hb e => ext b o hb e) f.1 f.2.1 f.2.2.2.1 f.2.2.2.2.1 f.2.2.2.2.2⟩
theorem pi_listH {l : Expr} {tl : TE} (hl : PE X l tl) : L2H.PIH X tg l (iList X.K tl) := ⟨fun pins s σ H R I h => thn (hl.run pins s σ H _ I h) fun v s1 got => by
  obtain ⟨x, H1, I1, rel, a, rfl, ⟨xs, hq⟩, wish⟩ := got
  cases rel
  obtain ⟨us, _, lay, _⟩ := I1.list hq
  have new : ∀ b ∈ [s1.heap.objs.size], FpOk X pins H1 b := fun b hb => by
    rw [List.mem_singleton.mp hb]
    exact I1.fpOk (Nat.le_refl s1.heap.objs.size) (I1.hok.fresh (Nat.le_refl _))
  exact wpAny_pyIter_list lay.isList ⟨_, _, _, _, H1, rfl, I1.kept (t' := s1.toks) fun b o e => Heap.get?_push_of_some _ e, turn_listH a _, ⟨_, Heap.get?_push_size _ rfl, rfl, rfl⟩, new, wish⟩⟩
/-- what a comprehension asks of each turn: the list is made at D, done is what is to hold at the end -/
def MoreH (D : Addr) (Nx : Hp → Prop) : VK := fun y G => ∃ made : List V, G D = some (.lst made) ∧ made.length < sizeLine ∧ Nx (upd G D (.lst (made ++ [y])))
def OneH (g : TG) (tt : TT) (te : TE) (D : Addr) (σ : L2.St) (vs : List Nat) (Nx : Hp → Prop) (x : V) (G : Hp) : Prop := g x (wipe σ vs) G fun τ G1 => wipe τ vs = wipe σ vs ∧ tt τ G1 fun b G2 => if b = true then te τ G2 (MoreH D Nx) else Nx G2
def TurnsH (J : It) (g : TG) (tt : TT) (te : TE) (D : Addr) (σ : L2.St) (vs : List Nat) (W : Nat → Nat → Hp → Prop) (done : Hp → Prop) : Prop :=
  ∀ i m G, W i m G → (J.stop i G ∧ done G) ∨ (J.go i G ∧ ∃ Nx : Hp → Prop, (∀ G', Nx G' → ∃ m', m' < m ∧ W (i + 1) m' G') ∧ ∀ x G', J.yld i G x G' → OneH g tt te D σ vs Nx x G')
section
variable {Y : Cx} {fp : List Addr} {tn : Nat → Heap → Prop} {W : Nat → Nat → Hp → Prop} {σ : L2.St} {vs : List Nat} {J : It} {it : Addr}
/-- where the walk stands, the i-th item ahead -/
structure SpotH (Y : Cx) (fp : List Addr) (tn : Nat → Heap → Prop) (W : Nat → Nat → Hp → Prop) (σ : L2.St) (n i : Nat) (H : Hp) (s : Shared) : Prop where
  inv : Inv Y [] σ H s
  iter : tn i s.heap
  none : ∀ b ∈ fp, H b = none
  left : W i n H
/-- behind a turn it stands at the next item: g is the heap when the item was handed out -/
theorem SpotH.next (T : L2H.TurnH Y.prog Y.w Y.K tg J fp it tn) {g : Heap} {σ2 : L2.St} {H : Hp} {s : Shared} {n m i : Nat} (st : tn (i + 1) g) (I : Inv Y (pinsAt fp g) σ2 H s) (ew : wipe σ2 vs = wipe σ vs) (lt : m < n) (w : W (i + 1) m H) :
    ∃ m, m < n ∧ ∃ i H, SpotH Y fp tn W (wipe σ vs) m i H s := by
  have pinned : ∀ b ∈ fp, ∀ o, g.get? b = some o → s.heap.get? b = some o ∧ H b = Option.none := fun b hb o e => by
    obtain ⟨q1, q2, _⟩ := I.pin (b, o) (List.mem_append_right _ (mem_pinsAt hb e))
    exact ⟨q1, q2⟩
  have I0 : Inv Y ([] ++ pinsAt fp g) σ2 H s := I
  refine ⟨m, lt, i + 1, H, (Inv.unpinned I0).weak ?_ fun j v e => ?_, T.keep _ _ _ st fun b hb o e => (pinned b hb o e).1, fun b hb => ?_, w⟩
  · rw [← ew]
    exact wipe_length ..
  · rw [← ew] at e
    exact (wipe_some e).1
  · obtain ⟨o, e, _⟩ := T.obj _ _ st b hb
    exact (pinned b hb o e).2
/-- a block hands no error on -/
theorem thnX {α : Type} {t : Sem α} {Q Q' : α → Shared → Prop} {M : Model} {A : Around} {E : Value → Shared → Prop} {s : Shared} (hx : Y.xe = fun _ _ => False) (h : wpAny M A t Q Y.xe s) (hQ : ∀ a s, Q a s → Q' a s) : wpAny M A t Q' E s := by
  rw [hx] at h
  exact thnF h hQ
/-- the whole walk, in the block's own context Y -/
theorem walkH {elt iter : Expr} {ifs : List Expr} {scope : Scope} {D : Addr} {g : TG} {tt : TT} {te : TE} {done : Hp → Prop} {R : Result → Shared → Prop} {H : Hp} {s : Shared} {n : Nat}
    (hx : Y.xe = fun _ _ => False) (hot : L2H.HotC Y) (T : L2H.TurnH Y.prog Y.w Y.K tg J fp it tn) (pg : PG Y tg g) (pt : PTs Y ifs tt) (pe : PE Y elt te) (away : ∀ (σ' : L2.St) (H' : Hp) (s' : Shared), Inv Y [] σ' H' s' → (∀ b ∈ fp, H' b = none) → ∀ b ∈ fp, FpOk Y [] H' b)
    (turns : TurnsH J g tt te D σ vs W done) (leave : ∀ H' s', Inv Y [] (wipe σ vs) H' s' → done H' → R (.ok .next) s') (start : SpotH Y fp tn W (wipe σ vs) n 0 H s) :
    codeAny (model Y.prog Y.w) Y.A (.compLoop (.ListComp elt [⟨tg, iter, ifs, 0⟩] scope pos) 0 (.ref it) (.ref D) Y.env) R s := by
  refine compLoop_any (fun n s => ∃ i H, SpotH Y fp tn W (wipe σ vs) n i H s) (fun n s at_ => ?_) n ⟨0, H, start⟩
  obtain ⟨i, H, spot⟩ := at_
  have ok := away _ _ _ spot.inv spot.none
  rcases turns i n H spot.left with ⟨stop, fin⟩ | ⟨go, Nx, nexts, step⟩
  · refine thnF (T.done Y rfl rfl rfl hot i [] s _ H (fun _ _ => False) spot.inv ok spot.iter stop) fun r s2 got => ?_
    cases got.1
    exact leave H s2 got.2 fin
  · refine thnF (T.item Y rfl rfl rfl hot i [] s _ H (fun _ _ => False) spot.inv ok spot.iter go) fun r s2 got => ?_
    obtain ⟨u, rfl, item⟩ := got
    refine thnF item fun _ s3 ⟨x, H3, I3, rel, yld, st3, no3⟩ => ?_
    have J3 : Inv Y (pinsAt fp s3.heap) (wipe σ vs) H3 s3 := I3.pinned (away _ _ _ I3 no3) (T.obj _ _ st3)
    refine thnX hx (pg.run _ s3 _ H3 x u _ J3 rel (step x H3 yld)) fun _ s4 ⟨σ4, H4, I4, ew, tst⟩ => thnX hx (pt.run _ s4 σ4 H4 _ I4 tst) fun b s5 ⟨H5, I5, wish⟩ => ?_
    have back : ∀ {H' : Hp} {s' : Shared}, Inv Y (pinsAt fp s3.heap) σ4 H' s' → Nx H' → ∃ m, m < n ∧ ∃ i H, SpotH Y fp tn W (wipe σ vs) m i H s' := fun {H' s'} I' nx => by
      obtain ⟨m, lt, w⟩ := nexts H' nx
      exact SpotH.next T st3 I' ew lt w
    cases b
    · exact back I5 wish
    · exact thnX hx (pe.run _ s5 σ4 H5 _ I5 wish) fun z s6 ⟨y, H6, I6, r6, acc, hD, few, nx⟩ => app_ok I6 hD few r6 fun s7 I7 => back I7 nx
end
/-- the block of a comprehension within an except suite: it bears the handled error -/
abbrev blkP (X : Cx) (p : Addr × Obj) (s : Shared) (H : Hp) (scope : Scope) (cenv : Env) (fp : List Addr) : Cx := { X.blk s H scope cenv fp with pn := [p] }
theorem inv_addP {Y : Cx} {p : Addr × Obj} {σ : L2.St} {H : Hp} {s : Shared} (I : Inv Y [] σ H s) (h : s.heap.get? p.1 = some p.2 ∧ H p.1 = none ∧ p.1 ≠ Y.env.locals ∧ p.1 ∉ Y.fs ∧ ∀ v, p.2.data ≠ .cell v) : Inv { Y with pn := [p] } [] σ H s := by
  have ok := I.ok
  refine ⟨⟨ok.mod, ok.kind, ok.glob, ok.blt, ok.above, ok.inj, ok.has, ok.cab, ok.hd, ok.frames, ok.stk, ok.exf, ok.bs, ok.bsz, ok.noex, ok.exfs, ok.funs, ok.frf⟩, I.os, I.bare, I.base, I.loc, I.cell, I.free, I.freeC, fun q hq => ?_, I.hok, I.len⟩
  have : q = p := by simpa using (show q ∈ [p] ++ ([] : List (Addr × Obj)) from hq)
  exact this ▸ h
/-- the environment of a block entered at s -/
abbrev envH (X : Cx) (scope : Scope) (s : Shared) : Env := compEnvC scope (cellsFrom (s.heap.objs.size + 1) scope.names (cloFrom X.env.cells scope.names [])) s.heap.objs.size X.env
/-- from the entry of the block on -/
theorem enterH {p : Addr × Obj} {pins : List (Addr × Obj)} {s : Shared} {σ : L2.St} {H : Hp} {elt iter : Expr} {ifs : List Expr} {scope : Scope} {own : List (Str × Nat)} {g : TG} {tt : TT} {te : TE} {it D : Addr} {fp : List Addr} {tn : Nat → Heap → Prop} {J : It} {W : Nat → Nat → Hp → Prop} {n : Nat} {done : Hp → Prop} {R : Result → Shared → Prop}
    (hot : L2H.Hot1 X.A p) (hp : p ∈ X.pn) (hN : X.N.Nodup) (I : Inv X pins σ H s) (ok : BlkOk X.N X.env.scope scope own) (T : L2H.TurnH X.prog X.w X.K tg J fp it tn) (st : tn 0 s.heap) (hfp : ∀ b ∈ fp, FpOk X pins H b)
    (pg : PG (blkP X p s H scope (envH X scope s) fp) tg g) (pt : PTs (blkP X p s H scope (envH X scope s) fp) ifs tt) (pe : PE (blkP X p s H scope (envH X scope s) fp) elt te)
    (turns : TurnsH J g tt te D σ (own.map (·.2)) W done) (start : W 0 n H) (leave : ∀ s2 m H2, Inv X pins σ H2 s2 → done H2 → s2.heap.Ns s.heap.objs.size m → FpOk X pins H2 s.heap.objs.size → R (.ok .next) s2) :
    codeAny (model X.prog X.w) X.A (.compStart (.ListComp elt [⟨tg, iter, ifs, 0⟩] scope pos) 0 (.ref it) (.ref D) (envH X scope s)) R { s with heap := pushCells (s.heap.push { cls := .type "dict", data := .dict #[] }) scope.names } := by
  have old : ∀ b o, s.heap.get? b = some o → (pushCells (s.heap.push { cls := .type "dict", data := .dict #[] }) scope.names).get? b = some o := fun b o e => pushCells_keeps _ _ _ _ (Heap.get?_push_of_some _ e)
  obtain ⟨q1, q2, q3, q4, q5⟩ := I.pin p (List.mem_append_left _ hp)
  have I2 := inv_addP (p := p) (block_start I ok hN fun b hb => ⟨hfp b hb, by
    obtain ⟨o, e, _⟩ := T.obj _ _ st b hb
    exact Heap.lt_size e⟩) ⟨old _ _ q1, q2, Nat.ne_of_lt (Heap.lt_size q1), fun hm => (List.mem_cons.mp (I.stkSub p.1 hm)).elim q3 q4, q5⟩
  have st2 := T.keep _ _ _ st fun b _ o e => old b o e
  have loop := walkH (Y := blkP X p s H scope (envH X scope s) fp) (R := R) (elt := elt) (iter := iter) (ifs := ifs) (scope := scope) (pos := pos) (n := n) rfl ⟨p, hot, List.mem_singleton.mpr rfl⟩ T pg pt pe (fun σ' H' s' I' no b hb => ?_) turns (fun H' s' I' fin => ?_) ⟨I2, st2, fun b hb => (hfp b hb).1, start⟩
  · exact codeAny_compStart_list loop (T.self X.A 0 _ _ _ st2 loop)
  · refine ⟨no b hb, (I'.ok.exf b hb).1, I'.ok.exfs b hb, .inl hb, fun x c e => (I'.ok.exf b hb).2 x c e, fun r hr => ?_⟩
    have : r = p := by simpa using (show r ∈ [p] ++ ([] : List (Addr × Obj)) from hr)
    rw [this]
    exact (hfp b hb).2.2.2.2.2 _ (List.mem_append_left _ hp)
  · obtain ⟨m, ns, _⟩ := I'.loc
    have free : H' s.heap.objs.size = none := I'.free
    exact leave s' m H' (I.call' (ch := fp) I'.os I'.base I'.hok I'.bare fun b hb => ⟨(hfp b hb).2.2.2.1, (hfp b hb).2.1, (hfp b hb).2.2.2.2.1, (hfp b hb).2.2.2.2.2⟩) fin ns (I.fpOk (Nat.le_refl _) free)
theorem pe_lcH {p : Addr × Obj} {elt iter : Expr} {ifs : List Expr} {scope : Scope} {own : List (Str × Nat)} {wi : TI} {g : TG} {tt : TT} {te : TE} (hot : L2H.Hot1 X.A p) (hp : p ∈ X.pn) (hN : X.N.Nodup) (hi : L2H.PIH X tg iter wi) (ok : BlkOk X.N X.env.scope scope own)
    (hg : ∀ (s : Shared) (H : Hp) (C : Addr) (cl : List (Str × Addr)) (fp : List Addr), PG (blkP X p s H scope (compEnvC scope cl C X.env) fp) tg g)
    (ht : ∀ (s : Shared) (H : Hp) (C : Addr) (cl : List (Str × Addr)) (fp : List Addr), PTs (blkP X p s H scope (compEnvC scope cl C X.env) fp) ifs tt)
    (he : ∀ (s : Shared) (H : Hp) (C : Addr) (cl : List (Str × Addr)) (fp : List Addr), PE (blkP X p s H scope (compEnvC scope cl C X.env) fp) elt te) (hs : ∀ x, foldedSetIterable iter X.env x = pure x := by intro _; rfl) :
    PE X (.ListComp elt [⟨tg, iter, ifs, 0⟩] scope pos) (tLc wi g tt te (own.map (·.2))) := ⟨fun pins s σ H Q I h => by
  have caps : closureFor scope X.env = pure (cloFrom X.env.cells scope.names []) := closure_ok fun y hy e => (ok.free y hy e).elim (fun k => I.ok.has _ (.inl k)) fun k => I.ok.has _ (.inr k)
  rw [eval_ListComp]
  refine wpAny_comprehension_free (use := none) rfl hs caps ok.kind (fun y hy e => (ok.uniq y hy).trans (congrArg some e)) (thn (hi.run pins s σ H _ I h) fun _ _ walk => thn walk fun _ s2 got => ?_)
  obtain ⟨it, fp, tn, J, H2, rfl, I2, T, st, away, wish⟩ := got
  obtain ⟨W, ⟨n, start⟩, turns⟩ := wish s2.heap.objs.size (I2.hok.fresh (Nat.le_refl _))
  have I3 : Inv X pins σ (upd H2 s2.heap.objs.size (.lst [])) { s2 with heap := s2.heap.push { cls := .type "list", data := .seq ([] : List Value).toArray } } :=
    I2.laid (t' := s2.toks) (fun b o e => Heap.get?_push_of_some _ e) (Nat.le_refl _) ⟨Nat.zero_le _, [], 0, .nil, Heap.get?_push_size _ rfl⟩
  have st3 := T.keep _ _ _ st fun b _ o e => Heap.get?_push_of_some { cls := .type "list", data := .seq ([] : List Value).toArray } e
  have away3 : ∀ b ∈ fp, FpOk X pins (upd H2 s2.heap.objs.size (.lst [])) b := fun b hb => by
    obtain ⟨o, e, _⟩ := T.obj _ _ st b hb
    refine ⟨?_, (away b hb).2⟩
    rw [upd_ne (Nat.ne_of_lt (Heap.lt_size e))]
    exact (away b hb).1
  refine wpAny_newObj_type (newEnv_comp (enterH hot hp hN I3 ok T st3 away3 (hg ..) (ht ..) (he ..) turns start fun s4 m H4 I4 fin ns f => ⟨m, ns, fun h2 same => ?_⟩)) (Nat.zero_le _)
  exact ⟨.ref s2.heap.objs.size, H4, I4.turned (t' := s4.toks) (fun b o hb e => (same.2 b hb).trans e) f.1 f.2.1 f.2.2.2.1 f.2.2.2.2.1 f.2.2.2.2.2, rfl, fin⟩⟩
end
end Rv
namespace Rv
open PySem L2 PySem.Spec PyProof.Rows
variable [Lz]
section
variable {Y : Cx} {a D : Addr} {oe : Obj}
/-- isinstance(e, c), e the error that the context bears -/
def rIsP (K : PySem.W.Frag) (D a : Addr) : List V → Hp → VK → Prop := fun xs H Q => ∃ (c : V) (cv : Value) (b : Bool), xs = [.ref a, c] ∧ (∀ u, RelV c u → u = cv) ∧ PySem.W.kitOne K (.ref D) cv = some b ∧ Q (.bl b) H
theorem call_isP (C : ExcC Y.K D) (hz : Zc (.ref D) none oe) (hf : ∃ vs, oe.data = .fields vs) (hp : (a, oe) ∈ Y.pn) : CallR Y (.builtin "isinstance") (rIsP Y.K D a) := fun pins s σ H xs us Q I r hh => by
  obtain ⟨c, cv, b, rfl, hcv, e, q⟩ := hh
  have hget : s.heap.get? a = some oe := (I.pin _ (List.mem_append_left _ hp)).1
  match us, r with
  | _, .cons rx (.cons rt .nil) =>
    cases rx
    have ec := hcv _ rt
    subst ec
    have inst : PySem.W.InstAt (Shared.heap s) a oe D none := by
      obtain ⟨vs, hv⟩ := hf
      cases oe with
      | mk oc od oda osl =>
        obtain ⟨z1, z2⟩ := hz
        cases (show oc = .ref D from z1)
        cases (show od = none from z2)
        cases (show oda = .fields vs from hv)
        exact (⟨hget, rfl, rfl, trivial⟩)
    exact PySem.W.kia_one (PySem.W.handS_kitx_exc C.hg C.hk C.hs C.hd C.ha C.hn C.ht C.hm) I.kIn inst e (fun z => nomatch z) fun tk => ⟨V.bl b, H, I.kept (t' := tk) (fun _ _ z => z), rfl, q⟩
/-- the display of pairs (a name, isinstance(e, C)) -/
structure MK (Y : Cx) (K : PySem.W.Frag) (a : Addr) (es : List Expr) (t : TA) (L : List PyData) : Prop where
  pa : PA Y es t
  sd : ∀ σ H O (Q : List V → Hp → Prop), (∀ l ∈ O, ∃ o, H l = some o) → σ[0]? = some (some (.ref a)) → (∀ vs H2, ExT H H2 → DpAll K (cut H2 O) vs L → Q vs H2) → t σ H Q
theorem mk_nil {K : PySem.W.Frag} : MK Y K a [] tNil [] := ⟨pa_nil, fun σ H O Q _ _ q => q [] H (ExT.refl H) .nil⟩
theorem mk_cons {K : PySem.W.Frag} {es : List Expr} {t : TA} {L : List PyData} {n x cn : Str} {b : Bool} {cv : V} {u : Value} {j x1 : Nat} {p1 p2 p3 p4 p5 p6 : Pos} (hK : Y.K = K) (EC : ExcC K D) (hz : Zc (.ref D) none oe) (hf : ∃ vs, oe.data = .fields vs) (hp : (a, oe) ∈ Y.pn)
    (hc : PE Y (.Name cn p4) (tC cv)) (hu : ∀ u', RelV cv u' → u' = u) (hkit : PySem.W.kitOne K (.ref D) u = some b) (hm : Y.mg "isinstance" = none) (r : MK Y K a es t L)
    (he : PE Y (.Name x p3) (tVar 0) := by exact pv _) (hg : Gl Y "isinstance" := by exact rfl)
    (s1 : starEach [.Name x p3, .Name cn p4] Y.env = (false, eval (.Name x p3) Y.env) :: starEach [.Name cn p4] Y.env := by exact rfl) (s2 : starEach [.Name cn p4] Y.env = (false, eval (.Name cn p4) Y.env) :: starEach [] Y.env := by exact rfl)
    (s3 : (backTo p5 (starEach [.Name cn p4] Y.env)).any (·.1) = false := by exact rfl)
    (s4 : starEach (.Tuple [.Constant (.str n) j p1, .Call (.Name "isinstance" p2) [.Name x p3, .Name cn p4] [] p5] x1 p6 :: es) Y.env = (false, eval (.Tuple [.Constant (.str n) j p1, .Call (.Name "isinstance" p2) [.Name x p3, .Name cn p4] [] p5] x1 p6) Y.env) :: starEach es Y.env := by exact rfl)
    (s5 : starEach [.Constant (.str n) j p1, .Call (.Name "isinstance" p2) [.Name x p3, .Name cn p4] [] p5] Y.env = (false, eval (.Constant (.str n) j p1) Y.env) :: starEach [.Call (.Name "isinstance" p2) [.Name x p3, .Name cn p4] [] p5] Y.env := by exact rfl)
    (s6 : starEach [.Call (.Name "isinstance" p2) [.Name x p3, .Name cn p4] [] p5] Y.env = (false, eval (.Call (.Name "isinstance" p2) [.Name x p3, .Name cn p4] [] p5) Y.env) :: starEach [] Y.env := by exact rfl) :
    MK Y K a (.Tuple [.Constant (.str n) j p1, .Call (.Name "isinstance" p2) [.Name x p3, .Name cn p4] [] p5] x1 p6 :: es) (tCons (tTup (tCons (tC (.str n)) (tCons (tCB (rIsP K D a) (tCons (tVar 0) (tCons (tC cv) tNil))) tNil))) t) (.tuple [.str n, .bool b] :: L) :=
  ⟨by
    have cr : CallR Y (.builtin "isinstance") (rIsP K D a) := by
      have := call_isP (Y := Y) (a := a) (oe := oe) (D := D) (by rw [hK]; exact EC) hz hf hp
      rw [hK] at this
      exact this
    exact pa_cons (pe_tup (pa_cons pe_str (pa_cons (pe_callB cr hg hm rfl (pa_cons he (pa_cons hc pa_nil s2) s1) (by decide) (by decide) s1 s3) pa_nil s6) s5)) r.pa s4,
  fun σ H O Q ho h0 q => by
    refine ⟨.ref a, h0, cv, u, b, rfl, hu, hkit, ?_, fun p hp => ?_⟩
    · exact line_two
    · have e1 : ExT H (upd H p (.tup [V.str n, V.bl b])) := ExT.new hp
      have new : Dp K (cut (upd H p (.tup [V.str n, V.bl b])) O) (.ref p) (.tuple [.str n, .bool b]) := new_tup ho hp (.cons (.str n) (.cons (.bl b) .nil))
      refine r.sd σ _ O _ (fun l hl => ?_) h0 fun vs H2 e2 hv => q _ H2 (e1.trans e2) (.cons (dp_ex (cut_mono e2) new) hv)
      obtain ⟨o, z⟩ := ho l hl
      exact e1.ther z⟩
end
section
variable {P : Program} {w : World} {K : PySem.W.Frag} {mg : Str → Option Value} {base : Heap} {N : List Str}
/-- what the def promises within the suite: handed the handled error, of the class D, it answers d -/
def KinH (P : Program) (w : World) (K : PySem.W.Frag) (mg : Str → Option Value) (base : Heap) (k : Nat) (f : Addr) (fd : FuncData) (D : Addr) (d : PyData) : Prop :=
  ∀ (A : Around) (outer : List Env) (s : Shared) (H : Hp) (Q : VK) (a : Addr) (oe : Obj), L2H.RoomH k A → L2H.Hot1 A (a, oe) → L2H.PinOk outer H s (a, oe) → Env0 P w K mg base A outer s H → BindsTo s fd ⟨[.ref a], []⟩ ([("e" : Str)].zip [Value.ref a]) → Zc (.ref D) none oe → (∃ vs, oe.data = .fields vs) → ∀ O : List Addr, (∀ l ∈ O, ∃ o, H l = some o) → LoJ H →
    (∀ v H2, ExT H H2 → Dp K (cut H2 O) v d → Q v H2) → codeAny (model P w) A (.call (.ref f) ⟨[.ref a], []⟩) (CR CX0 outer P w H s Q E0) s
theorem kin_run {x qual : Str} {st : Stmt} {f D : Addr} {fd : FuncData} {k : Nat} {d : PyData} (F : Fun K x qual st f fd) (S : FnScope N [("e" : Str)] (defScope st))
    (hb : ∀ (cdv : Value) (A : Around) (outer : List Env) (s : Shared) (H : Hp) (Q : VK) (a : Addr) (oe : Obj), L2H.Hot1 A (a, oe) → L2H.RoomH k (A.deeper (envOfC qual (defScope st) s.heap.objs.size f cdv)) → Zc (.ref D) none oe → (∃ vs, oe.data = .fields vs) → ∀ O : List Addr, (∀ l ∈ O, ∃ o, H l = some o) → LoJ H → (∀ v H2, ExT H H2 → Dp K (cut H2 O) v d → Q v H2) →
      ∃ t, PSs (L2H.cxH CX0 P w K mg base N qual (defScope st) f cdv A outer s H E0 (a, oe)) (defBody st) t ∧ t { nx := fun _ H' => Q .non H', rt := Q } (L2.start N [V.ref a]) H) :
    KinH P w K mg base (k + 1) f fd D d := fun A outer s H Q a oe hr hot hpin e0 hbind hz hf O ho hlz goal => by
  obtain ⟨_, _, _, _, _, _, cdv, _, _, rfl, lies, coded⟩ := F.ex
  have old : ∀ b o, base.get? b = some o → s.heap.get? b = some o := fun b o e => (e0.bs b o e).1
  have KX := e0.mod.kin.keeps old
  have kinds : ∀ y ∈ [("e" : Str)].zip [Value.ref a], (defScope st).names.lookup y.1 = some .local ∨ ((defScope st).names.lookup y.1 = some .cell ∧ ((cellsFrom (s.heap.objs.size + 1) (defScope st).names []).lookup y.1).isSome = true) := fun y hy =>
    (S.par y.1 (List.of_mem_zip (a := y.1) (b := y.2) hy).1).imp id fun q => ⟨q, PySem.W.cellsFrom_some _ _ _ (.inl q)⟩
  refine codeAny_call_function hr.depth (KX _ _ lies) rfl S.co S.gen rfl (PySem.W.codeRec_of KX coded) (hbind _ _ _ _ ?_)
  refine wpAny_newFunctionEnv_cells S.kind kinds fun env he s1 x1 => ?_
  subst he
  refine ⟨(e0.mod.nolimit.keeps old).keeps x1.toInCall.keep, codeAny_func ?_⟩
  obtain ⟨t, ht, hq⟩ := hb cdv A outer s H Q a oe hot (hr.deeper _) hz hf O ho hlz goal
  have rel : Vals [V.ref a] [Value.ref a] := .cons rfl .nil
  have I : Inv (L2H.cxH CX0 P w K mg base N qual (defScope st) f cdv A outer s H E0 (a, oe)) [] (L2.start N [V.ref a]) H s1 := L2H.inv_startH S hpin e0 rfl rel x1
  refine wpAny_mono (ht.run [] s1 _ H _ I hq) (fun fl s2 hs => ?_) fun e s2 hs => hs
  have fin : ∀ {σ' : L2.St} {H' : Hp} {v : V} {u : Value}, Inv (L2H.cxH CX0 P w K mg base N qual (defScope st) f cdv A outer s H E0 (a, oe)) [] σ' H' s2 → RelV v u → Q v H' → CE outer P w H s Q u s2 := fun {σ' H' v u} J rv q => ⟨v, H', J.os, J.bare, J.base, J.hok, rv, q⟩
  cases fl with
  | ret u => exact match hs with | ⟨_, _, _, J, rv, q⟩ => fin J rv q
  | next => exact match hs with | ⟨_, _, J, q⟩ => fin (v := .non) (u := .none) J rfl q
  | brk =>
    obtain ⟨_, _, _, q⟩ := hs
    exact False.elim q
  | cont =>
    obtain ⟨_, _, _, q⟩ := hs
    exact False.elim q
def mItL (m : En → Option PyData) : En → Option (List PyData) := fun env => (m env).bind fun d => match d with
  | .list xs => some xs
  | _ => none
/-- the whole def: kin = [(.., ..), ..]; return [name for name, there in kin if there] -/
theorem fn_kinH {x qual y n1 n2 : Str} {st : Stmt} {f D : Addr} {fd : FuncData} {k : Nat} {es : List Expr} {py lp ap p1 p2 p3 p4 p5 p6 p7 p8 : Pos} {x1 : Nat} {scope : Scope} {L : List PyData} {d : PyData} (F : Fun K x qual st f fd) (S : FnScope N [("e" : Str)] (defScope st))
    (hb : defBody st = [.Assign [.Name y py] (.List es lp) ap, .Return (some (.ListComp (.Name n1 p1) [⟨.Tuple [.Name n1 p2, .Name n2 p3] x1 p4, .Name y p5, [.Name n2 p6], 0⟩] scope p7)) p8])
    (hN : N = [("e" : Str), y, n1, n2])
    (h1 : ∀ (cdv : Value) (A : Around) (outer : List Env) (s : Shared) (H : Hp) (a : Addr) (oe : Obj), Zc (.ref D) none oe → (∃ fs, oe.data = .fields fs) → ∃ t, MK (L2H.cxH CX0 P w K mg base N qual (defScope st) f cdv A outer s H E0 (a, oe)) K a es t L) (hL : L.length ≤ sizeLine)
    (ok : BlkOk N (defScope st) scope [(n1, 2), (n2, 3)])
    (hm : mLc [2, 3] (mItL (mVar 1)) (gT 2 (gsC (gB 2) (gsC (gB 3) gsN))) (mTru (mVar 3)) (mVar 2) [none, some (.list L), none, none] = some d)
    (hlo : Loc (defScope st) y) (hly : (defScope st).names.lookup y = some .local)
    (hs : ∀ (cdv : Value) (A : Around) (outer : List Env) (s : Shared) (H : Hp) (p : Addr × Obj), swapsWith (.List es lp) (some (.Name y py)) ap.line (L2H.cxH CX0 P w K mg base N qual (defScope st) f cdv A outer s H E0 p).env = pure false)
    (hvy : ∀ (cdv : Value) (A : Around) (outer : List Env) (s : Shared) (H : Hp) (p : Addr × Obj), PE (L2H.cxH CX0 P w K mg base N qual (defScope st) f cdv A outer s H E0 p) (.Name y p5) (tVar 1))
    (hin : ∀ (cdv : Value) (A : Around) (outer : List Env) (s : Shared) (H : Hp) (p : Addr × Obj) (s' : Shared) (H' : Hp) (C : Addr) (cl : List (Str × Addr)) (fp : List Addr),
      let B := blkP (L2H.cxH CX0 P w K mg base N qual (defScope st) f cdv A outer s H E0 p) p s' H' scope (compEnvC scope cl C (L2H.cxH CX0 P w K mg base N qual (defScope st) f cdv A outer s H E0 p).env) fp
      PGs B [.Name n1 p2, .Name n2 p3] (gCons (gName 2) (gCons (gName 3) gNil)) ∧ (assignEach [.Name n1 p2, .Name n2 p3] B.env).length = 2 ∧ (assignEach [.Name n1 p2, .Name n2 p3] B.env).findIdx? (·.1) = none ∧ PE B (.Name n2 p6) (tVar 3) ∧ PE B (.Name n1 p1) (tVar 2)) :
    KinH P w K mg base (k + 1) f fd D d := by
  refine kin_run F S fun cdv A outer s H Q a oe hot hr hz hf O ho hlz goal => ?_
  obtain ⟨t, mk⟩ := h1 cdv A outer s H a oe hz hf
  have hot' : L2H.Hot1 (L2H.cxH CX0 P w K mg base N qual (defScope st) f cdv A outer s H E0 (a, oe)).A (a, oe) := hot
  have cmp : PE (L2H.cxH CX0 P w K mg base N qual (defScope st) f cdv A outer s H E0 (a, oe)) (.ListComp (.Name n1 p1) [⟨.Tuple [.Name n1 p2, .Name n2 p3] x1 p4, .Name y p5, [.Name n2 p6], 0⟩] scope p7) (tLc (iList K (tVar 1)) (gTup K 2 (gCons (gName 2) (gCons (gName 3) gNil))) (fun σ H Q => tVar 3 σ H fun x H' => ∃ k, TruV K x H' k ∧ Q k H') (tVar 2) [2, 3]) := by
    refine pe_lcH (p := (a, oe)) (own := [(n1, 2), (n2, 3)]) hot' List.mem_cons_self S.nd (pi_listH (hvy cdv A outer s H (a, oe))) ok (fun s' H' C cl fp => ?_) (fun s' H' C cl fp => ?_) fun s' H' C cl fp => ?_
    · obtain ⟨i1, i2, i3, i4, i5⟩ := hin cdv A outer s H (a, oe) s' H' C cl fp
      exact pg_tupH (n := 2) ⟨(a, oe), hot', List.mem_cons_self⟩ i1 i2 i3
    · obtain ⟨i1, i2, i3, i4, i5⟩ := hin cdv A outer s H (a, oe) s' H' C cl fp
      exact pts_one (pt_truth i4 fun _ => rfl)
    · obtain ⟨i1, i2, i3, i4, i5⟩ := hin cdv A outer s H (a, oe) s' H' C cl fp
      exact i5
  rw [hb]
  refine ⟨_, pss_cons (ps_set S.nd (by show N[1]? = some y; rw [hN]; rfl) hlo (pe_lst mk.pa) (hs cdv A outer s H (a, oe)) (.inr hly)) (pss_one (ps_ret cmp)), ?_⟩
  refine mk.sd _ H O _ ho rfl fun ws H1 e1 hw => ⟨by rw [dpAll_len hw]; exact hL, fun p hp => ?_⟩
  have ho1 : ∀ l ∈ O, ∃ o, H1 l = some o := fun l hl => by
    obtain ⟨o, z⟩ := ho l hl
    exact e1.ther z
  subst hN
  have sl : Sl K (mm0 []) H O O (L2.start [("e" : Str), y, n1, n2] [V.ref a]) (upd H1 p (.lst ws)) [none, none, none, none] := by
    refine ⟨hlz, e1.trans (ExT.new hp), fun l h => .inl h, fun l h => h, fun l h => (by
      obtain ⟨o, z⟩ := ho1 l h
      exact (ExT.new hp).ther z), fun i d' h _ => ?_, fun l h hn => absurd h hn, fun i R d' g => (by cases g), fun i d' h _ => ?_, fun i j d' e' l hi => absurd hi (List.not_mem_nil), rfl⟩
    · match i, h with
      | 0, h => cases h
      | 1, h => cases h
      | 2, h => cases h
      | 3, h => cases h
    · match i, h with
      | 0, h => cases h
      | 1, h => cases h
      | 2, h => cases h
      | 3, h => cases h
  have sl2 := sl.set (i := 1) (v := .ref p) (d := .list L) (mmOut rfl) (new_list ho1 hp hw)
  have F0 : Fam (fun i : Empty => (Empty.elim i : Cx)) K [("e" : Str), y, n1, n2] 0 := ⟨(fun i => Empty.elim i), (fun i => Empty.elim i), (fun i => Empty.elim i), (fun i => Empty.elim i), S.nd⟩
  have hg : SndG K (mm0 []) (gTup K 2 (gCons (gName 2) (gCons (gName 3) gNil))) (gT 2 (gsC (gB 2) (gsC (gB 3) gsN))) :=
    (g_tup (pos := p4) (q := x1) F0 (gs_cons (e := .Name n1 p2) (g_name F0 2 (mmOut rfl) rfl (fun i => Empty.elim i) (fun i => Empty.elim i)) (gs_cons (e := .Name n2 p3) (g_name F0 3 (mmOut rfl) rfl (fun i => Empty.elim i) (fun i => Empty.elim i)) gs_nil (fun i => Empty.elim i)) (fun i => Empty.elim i)) (fun i => Empty.elim i) (fun i => Empty.elim i)).sd
  have ht : SndT K (mm0 []) (fun σ H Q => tVar 3 σ H fun x H' => ∃ k, TruV K x H' k ∧ Q k H') (mTru (mVar 3)) := (t_tru F0 (q_of (d_var (X := fun i : Empty => (Empty.elim i : Cx)) (pos := p6) (x := n2) 3 (mmOut rfl) (fun i => Empty.elim i))) (fun i => Empty.elim i)).sd
  have he : Snd K (mm0 []) (tVar 2) (mVar 2) := (d_var (X := fun i : Empty => (Empty.elim i : Cx)) (pos := p1) (x := n1) 2 (mmOut rfl) (fun i => Empty.elim i)).sd
  have lc := snd_lc (K := K) (M := mm0 []) (vs := [2, 3]) (wi := iList K (tVar 1)) (mi := mItL (mVar 1)) (fun H0 O0 O σ H env ds s hm R q => by
    obtain ⟨dd, g1, g2⟩ := bind1 hm
    cases dd with
    | list xs =>
      cases g2
      obtain ⟨v, g3, g4⟩ := s.sh 1 _ (join_some g1) (mmOut rfl)
      cases g4 with
      | lst hs ha => exact ⟨_, g3, _, rfl, ⟨_, cut_ex.sl hs⟩, q _ H (ExT.refl H) (wk_list (fun H' O' a _ => cut_ex.sl (a.sl hs)) ha)⟩
    | _ => cases g2) hg (fun x σ H Q q => by
      have := gk_tup (K := K) (n := 2) (gk_cons1 (vs := [2, 3]) (j := 2) (by decide) (gk_cons1 (j := 3) (by decide) gk_nil)) x (wipe σ [2, 3]) H Q q
      rw [wipe_wipe] at this
      exact this) ht he
  exact lc H O O _ _ _ d sl2 hm _ fun v H2 e2 hv => goal v H2 ((e1.trans (ExT.new hp)).trans e2) hv
end
end Rv
namespace Rv
open PySem L2 PySem.Spec PyProof.Rows
variable [Lz]
section
variable {ι : Type} {X : ι → Cx} {W : ι → WX} {K : PySem.W.Frag} {mg : Str → Option Value} {N : List Str} {k : Nat} {M : MM} {a b c e tg : Expr} {ta tb tc te : TE} {ma mb mc me : En → Option PyData} {pos : Pos}
def SndJ (K : PySem.W.Frag) (M : MM) (t : TE) (m : En → Option Str) : Prop :=
  ∀ H0 O0 O σ H env y, Sl K M H0 O0 O σ H env → m env = some y → ∀ Q : VK, (∀ H2, ExT H H2 → Q (.str y) H2) → t σ H Q
def mJs : List (En → Option Str) → Str → En → Option Str
  | [], acc, _ => some acc
  | m :: ms, acc, env => (m env).bind fun y => if (acc ++ y).length ≤ sizeLine then mJs ms (acc ++ y) env else none
structure MJ {ι : Type} (X : ι → Cx) (K : PySem.W.Frag) (M : MM) (es : List Expr) (ts : List TE) (ms : List (En → Option Str)) : Prop where
  pj : ∀ i, PJ (X i) es ts
  sd : ∀ H0 O0 O σ H env acc y, Sl K M H0 O0 O σ H env → mJs ms acc env = some y → ∀ Q : Str → Hp → Prop, (∀ H2, ExT H H2 → Q y H2) → tJs ts acc σ H Q
theorem j_nil : MJ X K M [] [] [] := ⟨fun _ => .nil, fun H0 O0 O σ H env acc y s hm Q q => by
  cases hm
  exact q H (ExT.refl H)⟩
theorem snd_jcons {t : TE} {m : En → Option Str} {es : List Expr} {ts : List TE} {ms : List (En → Option Str)} (hp : ∀ i, PE (X i) e t) (h : SndJ K M t m) (r : MJ X K M es ts ms) : MJ X K M (e :: es) (t :: ts) (m :: ms) := ⟨fun i => .cons (hp i) (r.pj i), fun H0 O0 O σ H env acc y s hm Q q => by
  obtain ⟨z, g1, g2⟩ := bind1 (show ((m env).bind fun y => if (acc ++ y).length ≤ sizeLine then mJs ms (acc ++ y) env else none) = some y from hm)
  by_cases hz : (acc ++ z).length ≤ sizeLine
  · rw [if_pos hz] at g2
    exact h H0 O0 O σ H env z s g1 _ fun H1 e1 => ⟨z, rfl, hz, r.sd H0 O0 O σ H1 env (acc ++ z) y (s.ex e1) g2 Q fun H2 e2 => q H2 (e1.trans e2)⟩
  · rw [if_neg hz] at g2
    cases g2⟩
def mLit (x : Str) : En → Option Str := fun _ => some x
theorem j_lit {x : Str} {j : Nat} {p : Pos} {es : List Expr} {ts : List TE} {ms : List (En → Option Str)} (r : MJ X K M es ts ms) : MJ X K M (.Constant (.str x) j p :: es) (tC (.str x) :: ts) (mLit x :: ms) := snd_jcons (fun _ => pe_str) (fun H0 O0 O σ H env y s hm Q q => by
  cases hm
  exact q H (ExT.refl H)) r
def fmtD : PyData → Option Str
  | .str y => if y.length ≤ sizeLine then some y else none
  | .int i => if i.natAbs.log2 < 1920 then some (toString i) else none
  | _ => none
def mFmt (m : En → Option PyData) : En → Option Str := fun env => (m env).bind fmtD
theorem j_fmt {p : Pos} {es : List Expr} {ts : List TE} {ms : List (En → Option Str)} (h : MD X K M e te me) (r : MJ X K M es ts ms) : MJ X K M (.FormattedValue e (-1) none p :: es) (tFmt te :: ts) (mFmt me :: ms) := snd_jcons (fun i => pe_fmt (h.pe i)) (fun H0 O0 O σ H env y s hm Q q => by
  obtain ⟨d, g1, g2⟩ := bind1 hm
  refine h.sd H0 O0 O σ H env d s g1 _ fun v H1 e1 hv => ?_
  cases d with
  | str z =>
    obtain ⟨hz, e⟩ := ite_some g2
    subst e
    cases hv
    exact .inl ⟨_, rfl, hz, q H1 e1⟩
  | int i =>
    obtain ⟨hz, e⟩ := ite_some g2
    subst e
    cases hv
    exact .inr ⟨_, rfl, hz, q H1 e1⟩
  | _ => cases g2) r
def mFs (ms : List (En → Option Str)) : En → Option PyData := fun env => (mJs ms Str.empty env).bind fun y => some (.str y)
theorem d_fstr {v1 v2 : Expr} {es : List Expr} {ts : List TE} {ms : List (En → Option Str)} (h : MJ X K M (v1 :: v2 :: es) ts ms) : MD X K M (.JoinedStr (v1 :: v2 :: es) pos) (fun σ H Q => tJs ts Str.empty σ H fun out H1 => Q (.str out) H1) (mFs ms) := ⟨fun i => pe_joined (h.pj i), fun H0 O0 O σ H env d s hm Q q => by
  obtain ⟨y, g1, g2⟩ := bind1 hm
  cases g2
  exact h.sd H0 O0 O σ H env _ y s g1 _ fun H2 e2 => q _ H2 e2 (.str _)⟩
theorem pmk_any {Y : Cx} {C : Addr} {bmB : List Value} {B newId initId : String} {x : Str} {p : Pos} (F : ExcBaseFacts B newId initId bmB) (q : PySem.W.excIn Y.K C bmB newId = true) (gC : Y.mg x = some (.ref C)) (kC : PySem.W.keepIn Y.K (.ref C) = true) (r : Raises Y (.ref C)) (hg : Gl Y x) (he : PE Y e te)
    (hdb : (x == ("__debug__" : Str)) = false := by decide) (hst : starEach [e] Y.env = (false, eval e Y.env) :: starEach [] Y.env := by rfl) : L2N.PMk Y (.Call (.Name x p) [e] [] pos) (fun σ H Q => tCons te tNil σ H fun vs H1 => vs.length = 1 ∧ Q (.ref C) none H1) := by
  intro pins s σ H Q I h
  (refine wpAny_Call_Name_kw (ld_glob I hg gC ?_ hdb))
  have ha : PA Y [e] (tCons te tNil) := pa_cons he pa_nil hst
  refine PySem.W.callWith_K (h₀ := Y.base) I.ok.mod.kin kC (thn (ha.run pos pins s σ H _ I h) fun us s1 hh => ?_) hst
  obtain ⟨vs, H1, I1, r1, ev, h1⟩ := hh
  obtain ⟨v, rfl⟩ : ∃ v, vs = [v] := by
    match vs, ev with
    | [v], _ => exact ⟨v, rfl⟩
  refine ⟨I1.kIn, ?_⟩
  cases r1 with
  | cons ru rn =>
    rename_i u us2
    cases rn
    (show wpAny _ _ (call (.ref C) [u]) _ _ _)
    obtain ⟨bm, Nn, nm, qn, bs, hdct, sn, sub, ab, col, dd, k0, k1, k2, k3, k5, mN, hC, hN, hni, T⟩ := exc_obj I1.kIn q
    refine wpAny_call_exc_subT F T hC hN hni (fun h2 e2 hm => ?_) (by show 1 ≤ sizeLine; rw [sizeLine_eq]; omega)
    exact L2N.mk_of I1 hm r h1 (I1.hok.gone hm.new)
theorem x_raiseA {cn : Str} {C : Addr} {p : Pos} (F : Fam X K N k) (hC : mg cn = some (.ref C)) (tk : ∀ i, L2N.Takes (X i) (W i)) (h : MD X K M e te me) (mk : ∀ i, L2N.PMk (X i) (.Call (.Name cn p) [e] [] pos) (fun σ H Q => tCons te tNil σ H fun vs H1 => vs.length = 1 ∧ Q (.ref C) none H1)) {rp : Pos} :
    MX X W K mg M (.Raise (some (.Call (.Name cn p) [e] [] pos)) none rp) (fun V _ σ H => tCons te tNil σ H fun vs H1 => vs.length = 1 ∧ V (.ref C) none σ H1) (fun env => (me env).bind fun _ => some (.xc cn env)) :=
  ⟨fun i => L2N.ps_raise (F.calm i) (tk i) (mk i), fun V H0 O0 O σ H env fx D s hm q => by
    obtain ⟨d, g1, g2⟩ := bind1 hm
    cases g2
    exact h.sd H0 O0 O σ H env d s g1 _ fun v H1 e1 _ => ⟨rfl, q C σ H1 O hC (s.ex e1) (cut_mono e1)⟩⟩
end
/-- the contexts of a try's body -/
structure TIx {ι : Type} (X : ι → Cx) where
  i : ι
  W : WX
  pn : List (Addr × Obj)
  xe : Value → Shared → Prop
  tk : L2N.Takes ((X i).tr pn xe) W
  po : PassesOwn (model (X i).prog (X i).w) (X i).A (X i).env xe
abbrev tryF {ι : Type} (X : ι → Cx) : TIx X → Cx := fun q => (X q.i).tr q.pn q.xe
section
variable {ι : Type} {X : ι → Cx} {K : PySem.W.Frag} {mg : Str → Option Value} {base : Heap} {P : Program} {w : World} {N : List Str} {k : Nat} {M : MM}
theorem tryF_fam (F : Fam X K N k) : Fam (tryF X) K N k := ⟨fun q => F.hK q.i, fun q => F.calm q.i, fun q => F.room q.i, fun q => F.hN q.i, F.nd⟩
theorem takesN0 {Y : Cx} : L2N.Takes Y (fun _ _ _ _ => False) := fun _ _ x => by
  (obtain ⟨_, _, _, _, _, _, _, _, _, _, _, _, _, _, _, _, z⟩ := x)
  exact z.elim
def mTry (m : En → Option Fx) (kin : Str → Option PyData) (i j : Nat) : En → Option Fl := fun env => (m env).bind fun fx => match fx with
  | .fl f => some f
  | .xc c env' => if i < env'.length then (kin c).bind fun d => some (.nx ((env'.set j (some d)).set i none)) else none
/-- what the suite is to reach -/
def tKin (P : Program) (w : World) (K : PySem.W.Frag) (mg : Str → Option Value) (base : Heap) (kk : Nat) (f : Addr) (fd : FuncData) (i j : Nat) : Addr → Value → Option Addr → TS := fun a cls d D σ H =>
  σ[i]? = some (some (.ref a)) ∧ ∃ Dd dat O, cls = .ref Dd ∧ d = none ∧ KinH P w K mg base kk f fd Dd dat ∧ (∀ l ∈ O, ∃ o, H l = some o) ∧ LoJ H ∧ ∀ v H2, ExT H H2 → Dp K (cut H2 O) v dat → D.nx (σ.set j (some v)) H2
theorem pe_kin {Y : Cx} {a f : Addr} {oe : Obj} {fd : FuncData} {kk i : Nat} {dat : PyData} {D : Addr} {fnm n : Str} {p1 p2 p3 : Pos} (kin : KinH Y.prog Y.w Y.K Y.mg Y.base kk f fd D dat) (hr : L2H.RoomH kk Y.A) (hot : L2H.Hot1 Y.A (a, oe)) (hp : (a, oe) ∈ Y.pn) (hz : Zc (.ref D) none oe) (hf : ∃ vs, oe.data = .fields vs)
    (hg : Gl Y fnm) (hm : Y.mg fnm = some (.ref f)) (hk : PySem.W.keepIn Y.K (.ref f) = true) (hb : Binds Y.K fd [("e" : Str)] []) (he : PE Y (.Name n p2) (tVar i)) (hdb : (fnm == ("__debug__" : Str)) = false := by decide)
    (hst : starEach [.Name n p2] Y.env = (false, eval (.Name n p2) Y.env) :: starEach [] Y.env := by rfl) :
    PE Y (.Call (.Name fnm p1) [.Name n p2] [] p3) (fun σ H Q => σ[i]? = some (some (.ref a)) ∧ ∃ O, (∀ l ∈ O, ∃ o, H l = some o) ∧ LoJ H ∧ ∀ v H2, ExT H H2 → Dp Y.K (cut H2 O) v dat → Q v H2) := by
  (refine ⟨fun pins s σ H Q I h => ?_⟩)
  obtain ⟨hσ, O, ho, hlz, goal⟩ := h
  (refine wpAny_Call_Name_kw (ld_glob I hg hm ?_ hdb))
  have ha : PA Y [.Name n p2] (tCons (tVar i) tNil) := pa_cons he pa_nil hst
  refine PySem.W.callWith_K (h₀ := Y.base) I.ok.mod.kin hk (thn (ha.run p3 pins s σ H (fun vs H1 => vs = [V.ref a] ∧ H = H1) I ⟨_, hσ, rfl, rfl⟩) fun us s1 hh => ?_) hst
  (obtain ⟨vs, H1, I1, r1, ev, eH⟩ := hh)
  subst ev
  subst eH
  refine ⟨I1.kIn, ?_⟩
  cases r1 with
  | cons ru rn =>
    cases rn
    cases ru
    have pin := I1.pin (a, oe) (List.mem_append_left _ hp)
    have hpin : L2H.PinOk Y.stack H s1 (a, oe) := ⟨pin.1, pin.2.1, fun hm => (List.mem_cons.mp (I1.stkSub a hm)).elim pin.2.2.1 pin.2.2.2.1, pin.2.2.2.2⟩
    have bind := hb s1 [.ref a] I1.kIn rfl
    refine wpAny_call (codeAny_mono (kin Y.A Y.stack s1 H Q a oe hr hot hpin I1.env0 bind hz hf O ho hlz goal) fun r s2 hq => ?_)
    cases r with
    | error e => (exact False.elim hq)
    | ok fl =>
      cases fl with
      | ret u => exact I1.after hq
      | next => exact False.elim hq
      | brk => exact False.elim hq
      | cont => exact False.elim hq
theorem sets_end {α : Type} {l : List (Option α)} {i j : Nat} {x y : Option α} (h : i ≠ j) : ((l.set i x).set j y).set i none = (l.set j y).set i none := by
  rw [List.set_comm _ _ h, List.set_set]
theorem s_tryKin (F : Fam X K N k) (i j : Nat) {xn n y fnm : Str} {CV f : Addr} {fd : FuncData} {kk : Nat} {body : List Stmt} {t : WX → TS} {m : En → Option Fx} {kin : Str → Option PyData} {np py p1 p2 p3 p4 pos' pos : Pos}
    (hP : ∀ q, (X q).prog = P) (hw : ∀ q, (X q).w = w) (hmg : ∀ q, (X q).mg = mg) (hbs : ∀ q, (X q).base = base) (hb : MXs (tryF X) (fun q => q.W) K mg M body t m)
    (hkin : ∀ c d, kin c = some d → ∃ D, mg c = some (.ref D) ∧ PySem.W.exmOne K (.ref D) (.ref CV) = some true ∧ KinH P w K mg base kk f fd D d)
    (hkk : kk ≤ k) (hm : mg fnm = some (.ref f)) (hk : PySem.W.keepIn K (.ref f) = true) (hbd : Binds K fd [("e" : Str)] []) (hc : mg xn = some (.ref CV))
    (hi : i ∉ M := by first | decide | exact mmOut rfl) (hj : j ∉ M := by first | decide | exact mmOut rfl) (hij : i ≠ j := by decide) (hin : N[i]? = some n := by rfl) (hjn : N[j]? = some y := by rfl)
    (hs : ∀ q, (X q).stack = (X q).env :: (X q).outer := by exact fun _ => rfl) (hf : ∀ q, (X q).env.frame = some (X q).env.locals := by exact fun _ => rfl) (hln : ∀ q, (X q).env.kindOf n = some .local := by exact fun _ => rfl) (hgx : ∀ q, Gl (X q) xn := by exact fun _ => rfl) (hdx : (xn == ("__debug__" : Str)) = false := by decide)
    (hgf : ∀ q, Gl (X q) fnm := by exact fun _ => rfl) (hdf : (fnm == ("__debug__" : Str)) = false := by decide) (hlo : ∀ q, (X q).env.scope.names.lookup y = some .local := by exact fun _ => rfl)
    (hv : ∀ q a pn, PE ((X q).suite a pn) (.Name n p2) (tVar i) := by exact fun _ _ _ => pv _) (hst : ∀ q a pn, starEach [.Name n p2] ((X q).suite a pn).env = (false, eval (.Name n p2) ((X q).suite a pn).env) :: starEach [] ((X q).suite a pn).env := by exact fun _ _ _ => rfl)
    (hsw : ∀ q a pn, swapsWith (.Call (.Name fnm p1) [.Name n p2] [] p3) (some (.Name y py)) p4.line ((X q).suite a pn).env = pure false := by exact fun _ _ _ => rfl) :
    MS X K M (.Try body [.ExceptHandler (some (.Name xn np)) (some n) [.Assign [.Name y py] (.Call (.Name fnm p1) [.Name n p2] [] p3) p4] pos'] [] [] pos) (fun D σ H => t (wAs K (.ref CV) i (tKin P w K mg base kk f fd i j) (fun _ _ _ _ => False) D) D σ H) (mTry m kin i j) := by
  refine ⟨fun q => ?_, fun H0 O0 O σ H env fl D s hmm goal => ?_⟩
  · have nd : (X q).N.Nodup := by
      rw [F.hN q]
      exact F.nd
    have go := L2N.ps_try_as (X := X q) (tb := t) (ts := tKin P w K mg base kk f fd i j) (Wout := fun _ _ _ _ => False) (pos := pos) (pos' := pos') (np := np) (c := .ref CV) (x := xn) (n := n) (i := i) (body := body) (b₀ := .Assign [.Name y py] (.Call (.Name fnm p1) [.Name n p2] [] p3) p4) (suite := []) (hs q) (hf q) nd (by rw [F.hN q]; exact hin) (hln q) ⟨hgx q, hdx, .inl (by rw [hmg q]; exact hc)⟩ takesN0
      (fun W pn xe tk po => hb.ps ⟨q, W, pn, xe, tk, po⟩) (fun a oe cls d pn hz hfs => ?_)
    · rw [F.hK q] at go
      exact go
    · refine pss_one ⟨fun pins s σ H D I h => ?_⟩
      obtain ⟨hσ, Dd, dat, O, rfl, rfl, kn, ho, hlz, goal⟩ := h
      have hot : L2H.Hot1 ((X q).suite a ((a, oe) :: pn)).A (a, oe) := by
        obtain ⟨vs, hd⟩ := hfs
        exact ⟨rfl, vs, hd, hz.2.2 vs hd⟩
      have room : L2H.RoomH kk ((X q).suite a ((a, oe) :: pn)).A := by
        have r := (F.room q).mono hkk
        exact ⟨r.dp, r.un⟩
      have kn2 : KinH ((X q).suite a ((a, oe) :: pn)).prog ((X q).suite a ((a, oe) :: pn)).w ((X q).suite a ((a, oe) :: pn)).K ((X q).suite a ((a, oe) :: pn)).mg ((X q).suite a ((a, oe) :: pn)).base kk f fd Dd dat := by
        show KinH (X q).prog (X q).w (X q).K (X q).mg (X q).base kk f fd Dd dat
        rw [hP q, hw q, F.hK q, hmg q, hbs q]
        exact kn
      have pe := pe_kin (Y := (X q).suite a ((a, oe) :: pn)) (i := i) (fnm := fnm) (n := n) (p1 := p1) (p2 := p2) (p3 := p3) kn2 room hot List.mem_cons_self hz.zc hfs (hgf q) (by show (X q).mg fnm = _; rw [hmg q]; exact hm) (by show PySem.W.keepIn (X q).K _ = true; rw [F.hK q]; exact hk) (by show Binds (X q).K fd _ _; rw [F.hK q]; exact hbd) (hv q a _) hdf (hst q a _)
      refine (ps_set (X := (X q).suite a ((a, oe) :: pn)) (i := j) nd (by show (X q).N[j]? = _; rw [F.hN q]; exact hjn) (.inl (hlo q)) pe (hsw q a _) (.inr (hlo q))).run pins s σ H D I ⟨hσ, O, ho, hlz, fun v H2 e2 hv2 => goal v H2 e2 ?_⟩
      have hv3 : Dp (X q).K (cut H2 O) v dat := hv2
      rw [F.hK q] at hv3
      exact hv3
  · obtain ⟨fx, g1, g2⟩ := bind1 hmm
    cases fx with
    | fl f0 =>
      cases g2
      exact hb.sd _ H0 O0 O σ H env (.fl fl) D s g1 goal
    | xc c env' =>
      have g2 : (if i < env'.length then (kin c).bind fun d => some (Fl.nx ((env'.set j (some d)).set i none)) else none) = some fl := g2
      by_cases hlen : i < env'.length
      · rw [if_pos hlen] at g2
        obtain ⟨d, g3, g4⟩ := bind1 g2
        cases g4
        obtain ⟨D1, z1, z2, z3⟩ := hkin c d g3
        refine hb.sd _ H0 O0 O σ H env (.xc c env') D s g1 fun C σ2 H2 O2 hC s2 x2 => ?_
        have eC : C = D1 := Value.ref.inj (Option.some.inj (hC.symm.trans z1))
        subst eC
        refine ⟨true, z2, fun _ a na => ⟨?_, C, d, O2, rfl, rfl, z3, s2.there, M.lo _ (M.mono _ _ s2.ext s2.inv), fun v H3 e3 hv => ?_⟩, fun z => nomatch z⟩
        · exact List.getElem?_set_self (by rw [s2.len]; exact hlen)
        · show D.nx ((((σ2.set i (some (V.ref a))).set j (some v))).set i none) H3
          rw [sets_end hij]
          exact goal _ H3 O2 (((s2.ex e3).set hj hv).drop) (x2.trans (cut_mono e3))
      · rw [if_neg hlen] at g2
        cases g2
end
end Rv
namespace Rv
open PySem L2 PySem.Spec PyProof.Rows
variable [Lz]
section
variable {K : PySem.W.Frag} {D C : Addr} {b : Bool}
/-- an own error class, as the top has left it -/
structure ErrC (K : PySem.W.Frag) (C : Addr) : Prop where
  ty : PySem.W.typeIn K (.ref C) = some (.type "type")
  (ic : PySem.W.isClsIn K C = true)
/-- one that is raised by the program -/
structure ErrR (K : PySem.W.Frag) (C : Addr) : Prop where
  xc : PySem.W.excIn K C [.type "ValueError", .type "Exception", .type "BaseException", .type "object"] "ValueError.__new__" = true
  kc : PySem.W.keepIn K (.ref C) = true
  bc : PySem.W.subIn K (.ref C) (.type "BaseException") = some true
  sc : PySem.W.subIn K (.ref C) (.ref C) = some true
  ec : ExcC K C
theorem kcls_by (e : ErrC K C) (s : PySem.W.subIn K (.ref D) (.ref C) = some b) : PySem.W.kitCls K (.ref D) (.ref C) = some b := by
  have e1 : ((PySem.W.clsIn K C).isSome && PySem.W.typeIn K (.ref C) == some (.type "type")) = true := by
    have z : (PySem.W.clsIn K C).isSome = true := e.ic
    rw [z, e.ty]
    rfl
  show (if ((PySem.W.clsIn K C).isSome && PySem.W.typeIn K (.ref C) == some (.type "type")) = true then PySem.W.subIn K (.ref D) (.ref C) else none) = some b
  rw [if_pos e1]
  exact s
/-- isinstance(e, C) of an error of the class D -/
theorem kit_by (e : ErrC K C) (self : PySem.W.subIn K (.ref D) (.ref D) = some true) (s : PySem.W.subIn K (.ref D) (.ref C) = some b) : PySem.W.kitOne K (.ref D) (.ref C) = some b := by
  unfold PySem.W.kitOne
  by_cases z : (Value.ref D == Value.ref C) = true
  · rw [if_pos z]
    have ez : D = C := by
      have := beq_iff_eq.mp z
      exact Value.ref.inj this
    subst ez
    rw [self] at s
    exact s
  · rw [if_neg z]
    exact kcls_by e s
theorem kit_ty {T : String} (m : PySem.W.kitMeta T = true) (s : PySem.W.subIn K (.ref D) (.type T) = some b) : PySem.W.kitOne K (.ref D) (.type T) = some b := by
  unfold PySem.W.kitOne
  rw [if_neg (by exact Bool.false_ne_true)]
  show (if PySem.W.kitMeta T = true then PySem.W.subIn K (.ref D) (.type T) else none) = some b
  rw [if_pos m]
  exact s
theorem exm_by (e : ErrC K C) (bC : PySem.W.subIn K (.ref C) (.type "BaseException") = some true) (s : PySem.W.subIn K (.ref D) (.ref C) = some b) : PySem.W.exmOne K (.ref D) (.ref C) = some b := by
  unfold PySem.W.exmOne
  rw [if_pos (by rw [bC]; rfl)]
  exact kcls_by e s
end
end Rv
namespace Rv
open PySem L2 PySem.Spec PyProof.Rows
variable [Lz]
section
open NdefX LamX
variable {P : Program} {w : World} {H G : Hp} {h : Heap}
/-- the cells of the names ys (each with its slot), as far as the slots are known -/
def capt (cells : List (Str × Addr)) (σ : L2.St) (ys : List (Str × Nat)) : List (Addr × V) := ys.filterMap fun y => match cells.lookup y.1, σ[y.2]? with
  | some c, some (some v) => some (c, v)
  | _, _ => none
theorem lookup_mem {α β : Type} [BEq α] [LawfulBEq α] : ∀ {l : List (α × β)} {a : α} {b : β}, l.lookup a = some b → (a, b) ∈ l
  | (x, y) :: l, a, b, h => by
    rw [List.lookup_cons] at h
    by_cases z : (a == x) = true
    · rw [z] at h
      have e1 : a = x := eq_of_beq z
      have e2 : y = b := Option.some.inj h
      rw [e1, e2]
      exact List.mem_cons_self
    · rw [Bool.not_eq_true] at z
      rw [z] at h
      exact List.mem_cons_of_mem _ (lookup_mem h)
theorem capt_mem {cells : List (Str × Addr)} {σ : L2.St} {ys : List (Str × Nat)} {c : Addr} {v : V} (h : (capt cells σ ys).lookup c = some v) : ∃ y ∈ ys, cells.lookup y.1 = some c ∧ σ[y.2]? = some (some v) := by
  obtain ⟨y, hy, e⟩ := List.mem_filterMap.mp (lookup_mem h)
  refine ⟨y, hy, ?_⟩
  split at e
  · rename_i c2 v2 q1 q2
    cases e
    exact ⟨q1, q2⟩
  · cases e
end
end Rv
namespace Rv
open PySem L2 PySem.Spec PyProof.Rows
variable [Lz]
section
open NdefX LamX
variable {P : Program} {w : World} {K : PySem.W.Frag} {mg : Str → Option Value} {base : Heap} {J : Hp → Prop} {k n : Nat} {H G : Hp} {v : V} {g : List PyData → Option PyData}
/-- v, called in any later heap, answers by g -/
def CloV (P : Program) (w : World) (K : PySem.W.Frag) (mg : Str → Option Value) (base : Heap) (J : Hp → Prop) (k n : Nat) (H : Hp) (v : V) (g : List PyData → Option PyData) : Prop :=
  ∃ f, v = .ref f ∧ (∀ (G : Hp) (h : Heap), Ex H G → HOk P w G h → PySem.W.FnAt f h) ∧ ∀ (A : Around) (outer : List Env) (s : Shared) (G : Hp) (us : List Value) (vs : List V) (Q : VK) (E : XK), Room k A → Env0 P w K mg base A outer s G → ExT H G → Vals vs us → spD K J n g vs G Q E → codeAny (model P w) A (.call (.ref f) ⟨us, []⟩) (CR CX0 outer P w G s Q E) s
theorem CloV.mono {j : Nat} (c : CloV P w K mg base J j n H v g) (h : j ≤ k) : CloV P w K mg base J k n H v g := by
  obtain ⟨f, rfl, there, run⟩ := c
  exact ⟨f, rfl, there, fun A outer s G us vs Q E hr => run A outer s G us vs Q E (hr.mono h)⟩
end
end Rv
namespace Rv
open PySem L2 PySem.Spec PyProof.Rows
variable [Lz]
section
open NdefX LamX
variable {P : Program} {w : World} {K : PySem.W.Frag} {mg : Str → Option Value} {base : Heap} {J : Hp → Prop} {k n : Nat} {H G : Hp} {v : V}
def FlV (v : V) (b : PyData) : Prop := (v = .non ∧ b = .none) ∨ ∃ x, v = .bl x ∧ b = .bool x
theorem FlV.dp {b : PyData} (h : FlV v b) (H : Hp) : Dp K H v b := by
  rcases h with ⟨rfl, rfl⟩ | ⟨x, rfl, rfl⟩
  · exact .non
  · exact .bl x
def Flat (b : PyData) : Prop := b = .none ∨ ∃ x, b = .bool x
theorem Flat.of {b : PyData} (f : Flat b) (h : Dp K H v b) : FlV v b := by
  rcases f with rfl | ⟨x, rfl⟩
  · cases h
    exact .inl ⟨rfl, rfl⟩
  · cases h
    exact .inr ⟨x, rfl, rfl⟩
def one (g : PyData → Option PyData) : List PyData → Option PyData
  | [d] => g d
  | _ => none
theorem look_iff : ∀ (kn : List (Addr × V)) (c : Addr), (kn.lookup c).isSome = true ↔ c ∈ kn.map (·.1)
  | [], c => by simp
  | (a, z) :: r, c => by
    rw [List.lookup_cons, List.map_cons, List.mem_cons]
    by_cases q : c = a
    · subst q
      simp
    · have e : (c == a) = false := beq_eq_false_iff_ne.mpr q
      rw [e]
      exact (look_iff r c).trans ⟨.inr, fun h => h.resolve_left q⟩
/-- how the captured names lie -/
structure CapOk (cells : List (Str × Addr)) (scope : Scope) (fr : List Str) : Prop where
  inj : ∀ x y c, cells.lookup x = some c → cells.lookup y = some c → x = y
  has : ∀ y ∈ fr, ∃ c, cells.lookup y = some c
  sub : ∀ y ∈ scope.names, y.2 = .free → y.1 ∈ fr
  sup : ∀ y ∈ fr, (y, NameKind.free) ∈ scope.names
  nd : fr.Nodup
theorem CapOk.of {X : Cx} {N ps fr : List Str} {scope : Scope} (ok : X.Ok) (S : NScope N ps fr scope) (b : ndefB X.env.scope scope fr = true) (nd : fr.Nodup) : CapOk X.env.cells scope fr :=
  ⟨ok.inj, fun y hy => by
    rcases ndef_free b _ (ndef_fr b y hy) rfl with z | z
    · exact ok.has y (.inl z)
    · exact ok.has y (.inr z), S.free, ndef_fr b, nd⟩
section
variable {cells : List (Str × Addr)} {scope : Scope} {fr : List Str} {σ : L2.St} {js : List Nat} {cv : List V}
theorem zip_nodup : ∀ {fr : List Str} {js : List Nat} {y : Str} {a b : Nat}, fr.Nodup → (y, a) ∈ fr.zip js → (y, b) ∈ fr.zip js → a = b
  | x :: fr, j :: js, y, a, b, nd, h1, h2 => by
    rw [List.zip_cons_cons, List.mem_cons] at h1 h2
    obtain ⟨nx, nd2⟩ := List.nodup_cons.mp nd
    rcases h1 with h1 | h1
    · cases h1
      rcases h2 with h2 | h2
      · cases h2
        rfl
      · exact absurd (List.of_mem_zip h2).1 nx
    · rcases h2 with h2 | h2
      · cases h2
        exact absurd (List.of_mem_zip h1).1 nx
      · exact zip_nodup nd2 h1 h2
theorem capt_in {ys : List (Str × Nat)} {y : Str × Nat} {c : Addr} {v : V} (hy : y ∈ ys) (hc : cells.lookup y.1 = some c) (hv : σ[y.2]? = some (some v)) : (c, v) ∈ capt cells σ ys := List.mem_filterMap.mpr ⟨y, hy, by rw [hc, hv]⟩
theorem CapOk.at_ (C : CapOk cells scope fr) {y : Str} {j : Nat} {c : Addr} {v : V} (hy : (y, j) ∈ fr.zip js) (hc : cells.lookup y = some c) (hv : σ[j]? = some (some v)) : (capt cells σ (fr.zip js)).lookup c = some v := by
  have m := capt_in (cells := cells) (σ := σ) hy hc hv
  obtain ⟨z, kz⟩ := Option.isSome_iff_exists.mp ((look_iff _ c).mpr (List.mem_map.mpr ⟨_, m, rfl⟩))
  obtain ⟨y2, m2, q1, q2⟩ := capt_mem kz
  have e := C.inj _ _ _ hc q1
  have e2 : y2 = (y, j) := by
    obtain ⟨y3, j3⟩ := y2
    have e : y = y3 := e
    subst e
    rw [zip_nodup C.nd m2 hy]
  rw [e2] at q2
  have q2 : σ[j]? = some (some z) := q2
  rw [hv] at q2
  cases q2
  exact kz
theorem CapOk.all (C : CapOk cells scope fr) (hlen : js.length = fr.length) (hv : ∀ (i j : Nat), js[i]? = some j → ∃ v, cv[i]? = some v ∧ σ[j]? = some (some v)) :
    (∀ y c, (cloFrom cells scope.names []).lookup y = some c → ∃ z, (capt cells σ (fr.zip js)).lookup c = some z) ∧ (∀ x y c, (cloFrom cells scope.names []).lookup x = some c → (cloFrom cells scope.names []).lookup y = some c → x = y) ∧
    ∀ (i : Nat) (y : Str), fr[i]? = some y → ∃ c z, (cloFrom cells scope.names []).lookup y = some c ∧ cv[i]? = some z ∧ (capt cells σ (fr.zip js)).lookup c = some z := by
  have hf : ∀ y ∈ scope.names, y.2 = .free → ∃ c, cells.lookup y.1 = some c := fun y hy e => C.has _ (C.sub y hy e)
  have place : ∀ (i : Nat) (y : Str), fr[i]? = some y → ∃ c z, cells.lookup y = some c ∧ cv[i]? = some z ∧ (capt cells σ (fr.zip js)).lookup c = some z := fun i y hy => by
    have hi : i < js.length := by
      rw [hlen]
      exact (List.getElem?_eq_some_iff.mp hy).1
    obtain ⟨v, h1, h2⟩ := hv i js[i] (List.getElem?_eq_getElem hi)
    obtain ⟨c, hc⟩ := C.has y (List.mem_of_getElem? hy)
    refine ⟨c, v, hc, h1, C.at_ (j := js[i]) ?_ hc h2⟩
    refine List.mem_of_getElem? (i := i) ?_
    rw [List.getElem?_zip_eq_some]
    exact ⟨hy, List.getElem?_eq_getElem hi⟩
  refine ⟨fun y c e => ?_, fun x y c e1 e2 => C.inj x y c (clo_cm hf e1) (clo_cm hf e2), fun i y hy => ?_⟩
  · have e1 := clo_cm hf e
    have hy : y ∈ fr := by
      rcases cloFrom_mem (PySem.mem_of_lookup e) with hm | ⟨h1, _⟩
      · cases hm
      · exact C.sub _ h1 rfl
    obtain ⟨i, hi⟩ := List.getElem?_of_mem hy
    obtain ⟨c2, z, q1, _, q3⟩ := place i y hi
    rw [e1] at q1
    cases q1
    exact ⟨z, q3⟩
  · obtain ⟨c, z, q1, q2, q3⟩ := place i y hy
    exact ⟨c, z, clo_has hf (C.sup y (List.mem_of_getElem? hy)) q1, q2, q3⟩
variable {f : Addr} {ps : List Str} {Φ : Hp → List V → Prop} {h : PyData → Option PyData}
end
end
end Rv
namespace Rv
open PySem L2 PySem.Spec PyProof.Rows
variable [Lz]
/-- a tuple of texts, its object known to have no dict -/
def TupS (K : PySem.W.Frag) : Rel := fun H v d => ∃ (a : Addr) (o : Obj) (ys : List Str), v = .ref a ∧ d = .tuple (ys.map .str) ∧ H a = some (.frz o (.tup (ys.map V.str))) ∧ o.dict = none
theorem TupS.dp {K : PySem.W.Frag} {H : Hp} {v : V} {d : PyData} (h : TupS K H v d) : Dp K H v d := by
  obtain ⟨a, o, ys, rfl, rfl, h1, _⟩ := h
  exact .tup (.inl (.inr ⟨o, h1⟩)) (dpAll_of_strs ys)
theorem TupS.ex {K : PySem.W.Frag} {H H' : Hp} {v : V} {d : PyData} (e : Ex H H') (h : TupS K H v d) : TupS K H' v d := by
  obtain ⟨a, o, ys, rfl, rfl, h1, h2⟩ := h
  exact ⟨a, o, ys, rfl, rfl, e.at h1, h2⟩
end Rv
namespace Rv
open PySem L2 PySem.Spec PyProof.Rows
variable [Lz]
inductive AllR : List Rel → Hp → List V → List PyData → Prop
  | nil {H : Hp} : AllR [] H [] []
  | cons {R : Rel} {rs : List Rel} {H : Hp} {v : V} {d : PyData} {vs : List V} {ds : List PyData} : R H v d → AllR rs H vs ds → AllR (R :: rs) H (v :: vs) (d :: ds)
theorem own_dictL {ls : List Nat} {i : Nat} (h3 : i < 1000) (j : Nat) : dictSL (i :: ls) j = dictSL ls j := by
  have e : ∀ n, 1000 ≤ n → ((n ∈ i :: ls) ↔ n ∈ ls) := fun n hn => ⟨fun z => by
    (rcases List.mem_cons.mp z with z | z)
    · omega
    · exact z, fun z => List.mem_cons_of_mem _ z⟩
  unfold dictSL
  simp only [e (1000 + j) (by omega), e (2000 + j) (by omega), e (3000 + j) (by omega), e (4000 + j) (by omega), e (5000 + j) (by omega), e (6000 + j) (by omega), e (7000 + j) (by omega)]
def MM.own (M : MM) (i : Nat) (h : ((M.gh.lookup i).isNone && decide (i < 1000)) = true) : MM := ⟨i :: M.ls, M.J, M.mono, M.lo, M.gh, M.ghm, fun j hj R e => by
  obtain ⟨h1, h2⟩ := Bool.and_eq_true_iff.mp h
  rcases List.mem_cons.mp hj with z | z
  · rw [z, Option.isNone_iff_eq_none.mp h1] at e
    cases e
  · rw [own_dictL (of_decide_eq_true h2)]
    exact M.dis j z R e⟩
section
variable {K : PySem.W.Frag} {M : MM} {H0 H : Hp} {O0 O : List Addr} {σ : L2.St} {env : En} {i : Nat} {h : ((M.gh.lookup i).isNone && decide (i < 1000)) = true}
theorem own_dict (h3 : i < 1000) (j : Nat) : dictS (M.own i h) j = dictS M j := own_dictL h3 j
theorem Sl.back (s : Sl K (M.own i h) H0 O0 O σ H env) (h3 : i < 1000) : Sl K M H0 O0 O σ H (env.set i none) := by
  have out : ∀ j e, (env.set i none)[j]? = some (some e) → i ≠ j ∧ env[j]? = some (some e) := fun j e q => by
    rcases set_some q with ⟨_, z, _⟩ | z
    · cases z
    · exact z
  refine ⟨s.inv, s.ext, s.fresh, s.sub, s.there, fun j e q n => ?_, s.quiet, fun j R e g q => s.gho j R e g (out j e q).2, fun j e q n => ?_, fun j k e e2 l hj hk q1 q2 => ?_, by rw [List.length_set]; exact s.len⟩
  · obtain ⟨z, q⟩ := out j e q
    refine s.sh j e q fun y => ?_
    rcases y with y | y
    · exact n (.inl ((List.mem_cons.mp y).resolve_left fun w => z w.symm))
    · exact n (.inr y)
  · obtain ⟨z, q⟩ := out j e q
    rw [← own_dict (h := h) h3]
    exact s.ow j e q (List.mem_cons_of_mem _ n)
  · exact s.inj j k e e2 l (List.mem_cons_of_mem _ hj) (List.mem_cons_of_mem _ hk) (out j e q1).2 (out k e2 q2).2
end
end Rv
namespace Rv
open PySem L2 PySem.Spec PyProof.Rows
variable [Lz]
section
open NdefX LamX
variable {P : Program} {w : World} {K : PySem.W.Frag} {mg : Str → Option Value} {base : Heap} {k : Nat}
def fl : PyData → Option PyData
  | .none => some .none
  | .bool x => some (.bool x)
  | _ => none
end
end Rv
namespace Rv
open PySem L2 PySem.Spec PyProof.Rows
section
variable {K : PySem.W.Frag} {P : Program} {w : World} {base : Heap} {mg : Str → Option Value}
/-- what a def promises where no guard is up -/
structure FnG (P : Program) (w : World) (K : PySem.W.Frag) (mg : Str → Option Value) (base : Heap) (k : Nat) (f : Addr) (fd : FuncData) (ps : List Str) (sp : Sp) : Prop where
  at_ : ∀ (A : Around) (outer : List Env) (s : Shared) (H : Hp) (args : Args) (us : List Value) (vs : List V) (Q : VK) (E : XK), Room k A → A.guards = some [] → Env0 P w K mg base A outer s H →
    BindsTo s fd args (ps.zip us) → Vals vs us → sp vs H Q E → codeAny (model P w) A (.call (.ref f) args) (CR CX0 outer P w H s Q E) s
theorem FnG.imp {k : Nat} {f : Addr} {fd : FuncData} {ps : List Str} {sp sp' : Sp} (F : FnG P w K mg base k f fd ps sp) (h : ∀ vs H Q E, sp' vs H Q E → sp vs H Q E) : FnG P w K mg base k f fd ps sp' :=
  ⟨fun A outer s H args us vs Q E r g e b v z => F.at_ A outer s H args us vs Q E r g e b v (h _ _ _ _ z)⟩
end
end Rv
namespace Rv
open PySem L2 PySem.Spec PyProof.Rows
/-- keys are (a text of L, a number from -1 to 20), each once -/
def GoodK (L : List Str) (kvs : List (List Key × V)) : Prop := (kvs.map Prod.fst).Nodup ∧ ∀ p ∈ kvs, ∃ c i, p.1 = [Sum.inr c, Sum.inl i] ∧ c ∈ L ∧ -1 ≤ i ∧ i ≤ 20
theorem few_le {α : Type} [DecidableEq α] : ∀ {l L : List α}, l.Nodup → (∀ x ∈ l, x ∈ L) → l.length ≤ L.length
  | [], _, _, _ => (Nat.zero_le _)
  | x :: l, L, nd, h => by
    obtain ⟨nx, nd2⟩ := (List.nodup_cons.mp nd)
    have hx := h x List.mem_cons_self
    have := few_le (L := L.erase x) nd2 fun y hy => (List.mem_erase_of_ne fun (e : y = x) => nx (e ▸ hy)).mpr (h y (List.mem_cons_of_mem _ hy))
    have q := List.length_erase_of_mem (hx)
    have p := List.length_pos_of_mem hx
    rw [List.length_cons]
    omega
theorem GoodK.len {L : List Str} {kvs : List (List Key × V)} (g : GoodK L kvs) : kvs.length ≤ 22 * L.length := by
  have z := few_le (L := L.flatMap fun c => (List.range 22).map fun (m : Nat) => ([Sum.inr c, Sum.inl ((m : Int) - 1)] : List Key)) g.1 fun x hx => by
    obtain ⟨p, hp, rfl⟩ := List.mem_map.mp hx
    obtain ⟨c, i, e, hc, h1, h2⟩ := g.2 p hp
    rw [e]
    refine List.mem_flatMap.mpr ⟨c, hc, List.mem_map.mpr ⟨(i + 1).toNat, List.mem_range.mpr (by omega), ?_⟩⟩
    rw [show (((i + 1).toNat : Int) - 1) = i by omega]
  have e : ∀ M : List Str, (M.flatMap fun c => (List.range 22).map fun (m : Nat) => ([Sum.inr c, Sum.inl ((m : Int) - 1)] : List Key)).length = 22 * M.length := fun M => by
    induction M with
    | nil => rfl
    | cons c M ih =>
      rw [List.flatMap_cons, List.length_append, ih, List.length_map, List.length_range, List.length_cons]
      omega
  rw [e L, List.length_map] at z
  exact z
end Rv
namespace Rv
open PySem L2 PySem.Spec PyProof.Rows
section
variable [Lz]
theorem AllR.at_ {H : Hp} {d : PyData} : ∀ {rs : List Rel} {vs : List V} {ds : List PyData} {i : Nat}, AllR rs H vs ds → ds[i]? = some d → ∃ (R : Rel) (v : V), rs[i]? = some R ∧ vs[i]? = some v ∧ R H v d
  | _, _, _, 0, .cons h _, q => by
    cases q
    exact ⟨_, _, rfl, rfl, h⟩
  | _, _, _, i + 1, .cons _ r, q => AllR.at_ (i := i) r q
variable {K : PySem.W.Frag} {M : MM} {P : Program} {w : World} {mg : Str → Option Value} {base : Heap} {N : List Str}
end
end Rv
namespace Rv
open PySem L2 PySem.Spec PyProof.Rows
variable [Lz]
section
variable {ι : Type} {X : ι → Cx} {K : PySem.W.Frag} {mg : Str → Option Value} {N : List Str} {k : Nat} {M : MM} {a e : Expr} {ta : TE} {ma : En → Option PyData} {pos : Pos}
/-- which clause takes an error of this class, and what it sets -/
def Catch (K : PySem.W.Frag) (cls : Value) : List (Addr × V × PyData) → V → PyData → Prop
  | [], _, _ => False
  | (c, v, d) :: r, v', d' => ∃ b, PySem.W.exmOne K cls (.ref c) = some b ∧ (b = true → v' = v ∧ d' = d) ∧ (b = false → Catch K cls r v' d')
abbrev clL (j : Nat) (L : List (Addr × V × PyData)) : List (Value × (Addr → Value → Option Addr → TS)) := L.map fun p => (.ref p.1, fun _ _ _ D σ H => D.nx (σ.set j (some p.2.1)) H)
theorem Catch.mem {cls : Value} : ∀ {L : List (Addr × V × PyData)} {v : V} {d : PyData}, Catch K cls L v d → ∃ p ∈ L, v = p.2.1 ∧ d = p.2.2
  | [], _, _, h => h.elim
  | (c, v0, d0) :: r, v, d, ⟨b, _, h1, h2⟩ => by
    cases b with
    | true => exact ⟨_, List.mem_cons_self, h1 rfl⟩
    | false =>
      obtain ⟨p, hp, q⟩ := Catch.mem (h2 rfl)
      exact ⟨p, List.mem_cons_of_mem _ hp, q⟩
theorem Catch.many {cls : Value} {j : Nat} {Wo : WX} {D : Ends} {σ : L2.St} {H : Hp} {v : V} {d : PyData} : ∀ {L : List (Addr × V × PyData)}, Catch K cls L v d → D.nx (σ.set j (some v)) H → wMany K Wo D (clL j L) cls none σ H
  | [], h, _ => h.elim
  | (c, v0, d0) :: r, ⟨b, h0, h1, h2⟩, q => ⟨b, h0, fun e _ _ => by
    obtain ⟨rfl, _⟩ := h1 e
    exact q, fun e => Catch.many (h2 e) q⟩
end
end Rv
namespace Rv
open PySem L2 PySem.Spec PyProof.Rows
def geo : Nat → Nat
  | 0 => 0
  | k + 1 => geo k * 5 + 1
theorem geo_pow : ∀ k, 5 ^ k = 4 * geo k + 1
  | 0 => rfl
  | k + 1 => by
    rw [Nat.pow_succ, geo_pow k]
    show (4 * geo k + 1) * 5 = 4 * (geo k * 5 + 1) + 1
    omega
theorem geo_add (a : Nat) : ∀ d, geo (a + d) = geo a + 5 ^ a * geo d
  | 0 => rfl
  | d + 1 => by
    have e : 5 ^ a * (geo d * 5 + 1) = 5 * (5 ^ a * geo d) + 5 ^ a := by
      rw [Nat.mul_add, Nat.mul_one, ← Nat.mul_assoc, Nat.mul_comm _ 5]
    have p := geo_pow a
    have ih := geo_add a d
    show geo (a + d) * 5 + 1 = geo a + 5 ^ a * (geo d * 5 + 1)
    rw [e]
    generalize 5 ^ a * geo d = x at ih ⊢
    omega
theorem geo_twice (e : Nat) : geo (e + e) = 2 * (geo e * (2 * geo e + 1)) := by
  have h := geo_add e e
  rw [geo_pow e] at h
  have e1 : (4 * geo e + 1) * geo e = 4 * (geo e * geo e) + geo e := by rw [Nat.add_mul, Nat.one_mul, Nat.mul_assoc]
  have e2 : geo e * (2 * geo e + 1) = 2 * (geo e * geo e) + geo e := by rw [Nat.mul_add, Nat.mul_one, Nat.mul_left_comm]
  rw [e1] at h
  rw [e2]
  generalize geo e * geo e = y at h ⊢
  omega
theorem geo_odd : ∀ k, geo k % 2 = k % 2
  | 0 => rfl
  | k + 1 => by
    have ih := geo_odd k
    show (geo k * 5 + 1) % 2 = (k + 1) % 2
    omega
theorem odd_free (g : Nat) : Nat.Coprime 2 (2 * g + 1) := by
  unfold Nat.Coprime
  have e : (2 * g + 1) % 2 = 1 := by omega
  rw [Nat.gcd_rec, e]
  rfl
theorem geo_dvd : ∀ n d, 2 ^ n ∣ geo d → 2 ^ n ∣ d
  | 0, d, _ => by rw [Nat.pow_zero]; exact Nat.one_dvd d
  | n + 1, d, h => by
    have two : geo d % 2 = 0 := Nat.mod_eq_zero_of_dvd (Nat.dvd_trans ⟨2 ^ n, by rw [Nat.pow_succ, Nat.mul_comm]⟩ h)
    have par := geo_odd d
    obtain ⟨e, rfl⟩ : ∃ e, d = e + e := ⟨d / 2, by omega⟩
    rw [geo_twice, Nat.pow_succ, Nat.mul_comm] at h
    have h3 : 2 ^ n ∣ geo e * (2 * geo e + 1) := Nat.dvd_of_mul_dvd_mul_left (by decide) h
    have h4 : 2 ^ n ∣ geo e := Nat.Coprime.dvd_of_dvd_mul_right (Nat.Coprime.pow_left n (odd_free _)) h3
    obtain ⟨q, hq⟩ := geo_dvd n e h4
    refine ⟨q, ?_⟩
    have e5 : 2 ^ (n + 1) * q = 2 * (2 ^ n * q) := by rw [Nat.pow_succ, Nat.mul_comm (2 ^ n) 2, Nat.mul_assoc]
    rw [e5, ← hq]
    omega
/-- a mask: one less than a power of two -/
def Pw (m : Nat) : Prop := ∃ n, 3 ≤ n ∧ n ≤ 30 ∧ m + 1 = 2 ^ n
theorem lcg_geo (m : Nat) : ∀ k, lcgN m k = geo k % (m + 1)
  | 0 => (Nat.zero_mod _).symm
  | k + 1 => by
    show (lcgN m k * 5 + 1) % (m + 1) = (geo k * 5 + 1) % (m + 1)
    rw [lcg_geo m k]
    simp [Nat.add_mod, Nat.mul_mod]
theorem lcg_apart {m : Nat} (hm : Pw m) {a d : Nat} (hd : 0 < d) (hs : d ≤ m) : lcgN m a ≠ lcgN m (a + d) := fun h => by
  obtain ⟨n, _, _, e⟩ := hm
  rw [lcg_geo, lcg_geo, e] at h
  have z := Nat.sub_mod_eq_zero_of_mod_eq h.symm
  rw [geo_add, Nat.add_sub_cancel_left] at z
  have f : Nat.Coprime (2 ^ n) (5 ^ a) := Nat.Coprime.pow n a (by decide)
  have g := geo_dvd n d (Nat.Coprime.dvd_of_dvd_mul_left f (Nat.dvd_of_mod_eq_zero z))
  have := Nat.le_of_dvd hd g
  omega
theorem lcg_reach {m : Nat} (hm : Pw m) (a : Nat) {j : Nat} (hj : j ≤ m) : ∃ k, k ≤ m ∧ lcgN m (a + k) = j := by
  have nd : ((List.range (m + 1)).map fun k => lcgN m (a + k)).Nodup := by
    unfold List.Nodup
    rw [List.pairwise_map]
    refine List.Pairwise.imp_of_mem (fun {x y} hx hy hlt => ?_) (List.pairwise_lt_range (n := m + 1))
    have hy2 := List.mem_range.mp hy
    have := lcg_apart hm (a := a + x) (d := y - x) (by omega) (by omega)
    rwa [show a + x + (y - x) = a + y by omega] at this
  rcases Classical.em (j ∈ (List.range (m + 1)).map fun k => lcgN m (a + k)) with h | h
  · obtain ⟨k, hk, e⟩ := List.mem_map.mp h
    exact ⟨k, by have := List.mem_range.mp hk; omega, e⟩
  · have big := nat_nodup_len (j :: (List.range (m + 1)).map fun k => lcgN m (a + k)) (List.range (m + 1)) (List.nodup_cons.mpr ⟨h, nd⟩) fun x hx => by
      (rcases List.mem_cons.mp hx with rfl | hx)
      · exact List.mem_range.mpr (by omega)
      · obtain ⟨k, _, rfl⟩ := List.mem_map.mp hx
        rw [lcg_geo]
        exact List.mem_range.mpr (Nat.mod_lt _ (Nat.succ_pos _))
    rw [List.length_cons, List.length_map, List.length_range] at big
    omega
theorem meets_run {m : Nat} (hm : Pw m) (h : Int) {j : Nat} (hj : j ≤ m) : ∃ n, n ≤ m + 12 ∧ runI m (SetTable.bits h) n = j := by
  obtain ⟨a, _, ea⟩ := lcg_reach hm 0 (runI_le m (SetTable.bits h) 12)
  obtain ⟨k, hk, ek⟩ := lcg_reach hm (0 + a) hj
  refine ⟨12 + k, by omega, ?_⟩
  rw [runI_tail (bits_lt h), ← ea, lcgN_add]
  exact ek
theorem meets_way {m : Nat} (hm : Pw m) (h : Int) {j : Nat} (hj : j ≤ m) : ∃ k, k < 10 * SetTable.turns m ∧ way m h k = j := by
  obtain ⟨n, hn, e⟩ := meets_run hm h hj
  (obtain ⟨k, hk, e2⟩ := run_nth m (SetTable.bits h) n)
  exact ⟨k, by unfold SetTable.turns; omega, (congrArg SetTable.Probe.j e2).trans e⟩
structure TabG (t : SetTable) (hs : List Int) : Prop where
  ris : Ris t.place.toList
  dm : t.dummies = #[]
  sz : t.place.size = hs.length
  pw : Pw t.mask
  bd : ∀ y ∈ t.place.toList, y ≤ t.mask
  reach : ∀ q ∈ hs.zip t.place.toList, ∃ k, way t.mask q.1 k = q.2 ∧ ∀ c, c < k → way t.mask q.1 c ∈ t.place.toList
section
variable {t : SetTable} {hs : List Int} {h : Int}
theorem TabG.len (T : TabG t hs) : t.place.toList.length = hs.length := T.sz
/-- the first free slot of a way -/
theorem TabG.free (T : TabG t hs) (few : hs.length ≤ t.mask) (h : Int) : ∃ K, K < 10 * SetTable.turns t.mask ∧ way t.mask h K ∉ t.place.toList ∧ ∀ c, c < K → way t.mask h c ∈ t.place.toList := by
  obtain ⟨j, hj, nj⟩ := st_missing t.place.toList (t.mask + 1) (by rw [T.len]; omega)
  obtain ⟨k, hk, ek⟩ := meets_way T.pw h (Nat.le_of_lt_succ hj)
  obtain ⟨K, h1, h2, h3⟩ := st_least (p := fun k => way t.mask h k ∉ t.place.toList) k (show way t.mask h k ∉ _ by rw [ek]; exact nj)
  exact ⟨K, by omega, h2, fun c hc => Classical.byContradiction fun z => h3 c hc z⟩
end
end Rv
namespace Rv
open PySem L2 PySem.Spec PyProof.Rows
mutual
/-- no text within -/
def numK : NestedKey → Bool
  | .none => true
  | .num _ => true
  | .text _ => false
  | .tup ks => numKs ks
def numKs : List NestedKey → Bool
  | [] => true
  | k :: ks => numK k && numKs ks
end
structure IsK (h : Heap) (k : NestedKey) (a : Addr) : Prop where
  is : NestedIs h k (.ref a)
  dep : k.depth ≤ 8
  num : numK k = true
section
variable {P : Program} {w : World} {E : Value → Shared → Prop}
theorem IsK.keep {h h' : Heap} {k : NestedKey} {a : Addr} (x : IsK h k a) (hk : ∀ b o vs n, h.get? b = some o → o.data = .seq vs n → h'.get? b = some o) : IsK h' k a := ⟨NestedIs.at hk _ _ x.is, x.dep, x.num⟩
/-- the tuples stay when a set is written -/
theorem IsK.beside {h h' : Heap} {k : NestedKey} {a b : Addr} {o : Obj} {es : Array (Int × Value)} {ep : Nat} {t : SetTable} (x : IsK h k b) (ho : h.get? a = some o) (hd : o.data = .set es ep t) (hs : Heap.SameBut a h h') : IsK h' k b :=
  x.keep fun c oc vs n e1 e2 => by
    rw [hs.2 c fun z => ?_]
    · exact e1
    · subst z
      rw [ho] at e1
      cases e1
      rw [hd] at e2
      cases e2
end
def rowsK (w : World) (L : List (Addr × NestedKey)) : List (Int × Value) := L.map fun p => (p.2.hash w, Value.ref p.1)
structure SetK (w : World) (h : Heap) (a : Addr) (L : List (Addr × NestedKey)) (es : Array (Int × Value)) (ep : Nat) (t : SetTable) : Prop where
  ob : ∃ it, h.get? a = some it ∧ it.ExactSet ∧ it.data = .set es ep t
  rows : es.toList = rowsK w L
  tab : TabG t (L.map fun p => p.2.hash w)
  nd : (L.map (·.2)).Nodup
  key : ∀ p ∈ L, IsK h p.2 p.1
  plain : t.plain = true
  led : (w.params.followText "set-order" = true ∨ t.led = true)
  room : (L.length * 5 < t.mask * 3)
  msk : t.mask ≤ 8191
section
variable {P : Program} {w : World} {A : Around} {E : Value → Shared → Prop} {s : Shared} {a : Addr} {L : List (Addr × NestedKey)} {es : Array (Int × Value)} {ep : Nat} {t : SetTable}
theorem rowsK_size (h : es.toList = rowsK w L) : es.size = L.length := by
  have := (congrArg List.length h)
  unfold rowsK at this
  rw [List.length_map] at this
  exact this
theorem fits_of {n : Nat} (h1 : t.place.size = es.size) (h2 : t.dummies = #[]) (h3 : es.size ≤ t.mask) : t.fits es.size = true := by
  (unfold SetTable.fits SetTable.fill)
  rw [h2, h1, beq_self_eq_true, Bool.true_and, decide_eq_true_eq]
  exact h3
theorem SetK.size (R : SetK w s.heap a L es ep t) : es.size = L.length := rowsK_size R.rows
theorem SetK.placed (R : SetK w s.heap a L es ep t) : t.place.size = L.length := by
  have := R.tab.sz
  rw [List.length_map] at this
  exact this
theorem SetK.fits (R : SetK w s.heap a L es ep t) : t.fits es.size = true := fits_of (n := 0) (by rw [R.placed, R.size]) R.tab.dm (by rw [R.size]; have := R.room; omega)
end
end Rv
namespace Rv
open PySem L2 PySem.Spec PyProof.Rows
/-- what a set has that had base, when i of ks have been put in -/
structure GotK (base ks : List (Addr × NestedKey)) (i : Nat) (L : List (Addr × NestedKey)) : Prop where
  sub : ∀ p ∈ L, p ∈ base ∨ p ∈ ks.take i
  old : ∀ p ∈ base, p.2 ∈ L.map (·.2)
  all : ∀ y ∈ ks.take i, y.2 ∈ L.map (·.2)
  len : L.length ≤ base.length + i
theorem GotK.next {base ks L L2 : List (Addr × NestedKey)} {i : Nat} {x : Addr × NestedKey} (g : GotK base ks i L) (h : ks[i]? = some x) (old : x.2 ∈ L.map (·.2) → L2 = L) (new : x.2 ∉ L.map (·.2) → L2.Perm (x :: L)) : GotK base ks (i + 1) L2 := by
  have e : ks.take (i + 1) = ks.take i ++ [x] := by
    rw [List.take_add_one, h]
    rfl
  have wide : ∀ {p : Addr × NestedKey}, p ∈ ks.take i → p ∈ ks.take (i + 1) := fun {p} hp => by
    rw [e]
    exact List.mem_append_left _ hp
  rcases Classical.em (x.2 ∈ L.map (·.2)) with c | c
  · rw [old c]
    refine ⟨fun p hp => (g.sub p hp).imp id wide, g.old, fun p hp => ?_, by have := g.len; omega⟩
    rw [e] at hp
    (rcases List.mem_append.mp hp with hp | hp)
    · exact g.all p hp
    · (rw [List.mem_singleton.mp hp])
      exact c
  · have pm := new c
    have up : ∀ {k : NestedKey}, k ∈ L.map (·.2) → k ∈ L2.map (·.2) := fun {k} hk => (pm.map (·.2)).mem_iff.mpr (List.mem_cons_of_mem _ hk)
    refine ⟨fun p hp => ?_, fun p hp => up (g.old p hp), fun p hp => ?_, ?_⟩
    · rcases List.mem_cons.mp (pm.mem_iff.mp hp) with rfl | hp
      · exact .inr (by rw [e]; exact List.mem_append_right _ (List.mem_singleton.mpr rfl))
      · exact (g.sub p hp).imp id wide
    · rw [e] at hp
      (rcases List.mem_append.mp hp with hp | hp)
      · exact up (g.all p hp)
      · (rw [List.mem_singleton.mp hp])
        exact (pm.map (·.2)).mem_iff.mpr List.mem_cons_self
    · have l := pm.length_eq
      have := g.len
      rw [List.length_cons] at l
      omega
end Rv
namespace Rv
open PySem L2 PySem.Spec PyProof.Rows
section
variable [Lz] {P : Program} {w : World} {A : Around} {E : Value → Shared → Prop} {s : Shared}
theorem SetK.fill {h : Heap} {a : Addr} {L : List (Addr × NestedKey)} {es : Array (Int × Value)} {ep : Nat} {t : SetTable} (R : SetK w h a L es ep t) : t.fill = L.length := by
  unfold SetTable.fill
  have := R.tab.sz
  rw [List.length_map] at this
  rw [R.tab.dm, this]
  rfl
end
end Rv
namespace Rv
open PySem L2 PySem.Spec PyProof.Rows
variable [Lz]
section
variable {K : PySem.W.Frag} {H : Hp} {c : Nat}
def fldD (f : Str) : List (PyData × PyData) → Option PyData
  | [] => none
  | (k, d) :: r => match k with
    | .str g => if f = g then some d else fldD f r
    | _ => none
def putFD (f : Str) (d : PyData) : List (PyData × PyData) → List (PyData × PyData)
  | [] => [(.str f, d)]
  | (k, x) :: r => match k with
    | .str g => if g = f then (.str g, d) :: r else (.str g, x) :: putFD f d r
    | _ => (k, x) :: r
theorem kvf_look {f : Str} : ∀ {fs : List (Str × V)} {es : List (PyData × PyData)}, KvF K H c fs es → (fldD f es = none → fs.lookup f = none) ∧ ∀ d, fldD f es = some d → ∃ v, fs.lookup f = some v ∧ FR K H (Lz.fk c f) v d
  | _, _, .nil => ⟨fun _ => rfl, fun _ h => by cases h⟩
  | _, _, @KvF.cons _ _ _ _ g v d fs es h r => by
    obtain ⟨i1, i2⟩ := kvf_look (f := f) r
    have un : fldD f ((.str g, d) :: es) = if f = g then some d else fldD f es := rfl
    rw [un, List.lookup_cons]
    by_cases e : f = g
    · subst e
      rw [if_pos rfl, beq_self_eq_true]
      exact ⟨fun z => (by cases z), fun x z => by
        cases z
        exact ⟨v, rfl, h⟩⟩
    · rw [if_neg e, beq_eq_false_iff_ne.mpr e]
      exact ⟨i1, i2⟩
theorem kvf_put {f : Str} {v : V} {d : PyData} (hv : FR K H (Lz.fk c f) v d) : ∀ {fs : List (Str × V)} {es : List (PyData × PyData)}, KvF K H c fs es → KvF K H c (putF f v fs) (putFD f d es)
  | _, _, .nil => .cons hv .nil
  | _, _, @KvF.cons _ _ _ _ g x dx fs es h r => by
    have ih := kvf_put hv r
    have u1 : putF f v ((g, x) :: fs) = if g = f then (g, v) :: fs else (g, x) :: putF f v fs := rfl
    have u2 : putFD f d ((.str g, dx) :: es) = if g = f then (.str g, d) :: es else (.str g, dx) :: putFD f d es := rfl
    rw [u1, u2]
    by_cases e : g = f
    · rw [if_pos e, if_pos e]
      exact .cons (by rw [e]; exact hv) r
    · rw [if_neg e, if_neg e]
      exact .cons h ih
theorem kvf_len : ∀ {fs : List (Str × V)} {es : List (PyData × PyData)}, KvF K H c fs es → fs.length = es.length
  | _, _, .nil => rfl
  | _, _, .cons _ r => by rw [List.length_cons, List.length_cons, kvf_len r]
end
theorem tab_cut {H : Hp} {ls : List Addr} (nb : ∀ l ∈ ls, ∀ o, H l = some o → (∀ ps, o ≠ .tbl ps) ∧ ∀ φ, o ≠ .ext φ) (t : TabsJ H) : TabsJ (cut H ls) := fun p hp => by
  obtain ⟨ps, h1, h2, h3⟩ := t p hp
  refine ⟨ps, (cut_out fun z => (nb p.1 z _ h1).1 ps rfl).trans h1, h2, fun pos cv f => ?_⟩
  obtain ⟨b, e1, e2⟩ := h3 pos cv f
  exact ⟨b, e1, (cut_out fun z => (nb _ z _ e2).2 _ rfl).trans e2⟩
theorem set_self {α : Type} (σ : List α) (i : Nat) (x : α) : σ.set i ((σ[i]?).getD x) = σ := by
  (refine List.ext_getElem? fun j => ?_)
  by_cases hj : i = j
  · subst hj
    by_cases hl : i < σ.length
    · rw [List.getElem?_set_self hl, List.getElem?_eq_getElem hl]
      rfl
    · rw [List.getElem?_eq_none (by rw [List.length_set]; omega), List.getElem?_eq_none (by omega)]
  · rw [List.getElem?_set_ne hj]
section
variable {K : PySem.W.Frag} {M : MM} {H0 : Hp} {O0 O : List Addr} {σ : L2.St} {H H2 : Hp} {env : En}
theorem Sl.forget (s : Sl K M H0 O0 O σ H env) (i : Nat) : Sl K M H0 O0 O σ H (env.set i none) := by
  have d := s.drop (i := i) (v := (σ[i]?).getD none)
  rw [set_self] at d
  exact d
theorem cut_shift {ls : List Addr} (sub : ∀ l ∈ ls, l ∈ O) (e : ExT (cut H ls) H2) : Ex (cut H O) (cut H2 O) := by
  have at_ : ∀ {p : Addr} {t : HO}, cut H O p = some t → p ∉ O ∧ cut H ls p = some t := fun {p t} q => by
    by_cases z : p ∈ O
    · rw [cut_in z] at q
      cases q
    · rw [cut_out z] at q
      exact ⟨z, (cut_out fun y => z (sub p y)).trans q⟩
  refine ⟨fun p t q n => ?_, fun p ps q => ?_, fun p t I hz q => ?_⟩
  · obtain ⟨z, y⟩ := at_ q
    rw [cut_out z]
    exact e.at y n
  · obtain ⟨z, y⟩ := at_ q
    rw [cut_out z]
    exact e.ex.tab p ps y
  · obtain ⟨z, y⟩ := at_ q
    rw [cut_out z]
    exact e.ex.loud p t I hz y
theorem ext_shift {ls : List Addr} (x : ExT H0 H) (no : ∀ l ∈ ls, H0 l = none) (nb : ∀ l ∈ ls, ∀ o, H l = some o → (∀ ps, o ≠ .tbl ps) ∧ ∀ φ, o ≠ .ext φ) (e : ExT (cut H ls) H2) : ExT H0 H2 := by
  have far : ∀ {p : Addr} {t : HO}, H0 p = some t → p ∉ ls := fun {p t} q z => by
    rw [no p z] at q
    cases q
  refine ⟨⟨fun p t q n => e.at ((cut_out (far q)).trans (x.at q n)) n, fun p ps q => ?_, fun p t I hz q => ?_⟩, fun t => e.tell (tab_cut nb (x.tell t))⟩
  · obtain ⟨t2, y⟩ := x.ex.tab p ps q
    exact e.ther ((cut_out (far q)).trans y)
  · obtain ⟨t2, y, i2⟩ := x.ex.loud p t I hz q
    obtain ⟨t3, w, i3⟩ := e.ex.loud p t2 I hz ((cut_out (far q)).trans y)
    exact ⟨t3, w, fun i => i3 (i2 i)⟩
/-- the owned ls have changed, no slot that is known holds one -/
theorem Sl.shift (s : Sl K M H0 O0 O σ H env) {ls : List Addr} (own : ∀ l ∈ ls, l ∈ O ∧ l ∉ O0) (far : ∀ i d l, i ∈ M.ls → env[i]? = some (some d) → σ[i]? = some (some (.ref l)) → l ∉ ls) (nb : ∀ l ∈ ls, ∀ o, H l = some o → (∀ ps, o ≠ .tbl ps) ∧ ∀ φ, o ≠ .ext φ) (e : ExT (cut H ls) H2) (th : ∀ l ∈ ls, ∃ o, H2 l = some o) : Sl K M H0 O0 O σ H2 env := by
  have cx := cut_shift (O := O) (fun l h => (own l h).1) e
  refine ⟨s.inv, ext_shift s.ext (fun l h => (s.fresh l (own l h).1).resolve_left (own l h).2) nb e, s.fresh, s.sub, fun l h => ?_, fun i d h n => ?_, s.quiet, fun i R d g h => ?_, fun i d h n => ?_, s.inj, s.len⟩
  · by_cases z : l ∈ ls
    · exact th l z
    · obtain ⟨o, q⟩ := s.there l h
      exact e.ther ((cut_out z).trans q)
  · obtain ⟨v, h1, h2⟩ := s.sh i d h n
    exact ⟨v, h1, dp_ex cx h2⟩
  · obtain ⟨v, h1, h2⟩ := s.gho i R d g h
    exact ⟨v, h1, M.ghm i R g _ _ v d cx h2⟩
  · obtain ⟨l, o, h1, h2, h3, h5, h6⟩ := s.ow i d h n
    exact ⟨l, o, h1, h2, h3, e.at ((cut_out (far i d l n h h1)).trans h5) (h6.nt (s.quiet l h2 h3)), h6.ex cx⟩
/-- the owned ls are given up -/
theorem Sl.less (s : Sl K M H0 O0 O σ H env) {ls : List Addr} (own : ∀ l ∈ ls, l ∈ O ∧ l ∉ O0) (far : ∀ i d l, i ∈ M.ls → env[i]? = some (some d) → σ[i]? = some (some (.ref l)) → l ∉ ls) (nb : ∀ l ∈ ls, ∀ o, H l = some o → (∀ ps, o ≠ .tbl ps) ∧ ∀ φ, o ≠ .ext φ) (e : ExT (cut H ls) H2) : Sl K M H0 O0 (O.filter fun l => !decide (l ∈ ls)) σ H2 env ∧ Ex (cut H O) (cut H2 (O.filter fun l => !decide (l ∈ ls))) := by
  have mem : ∀ {l : Addr}, l ∈ O.filter (fun l => !decide (l ∈ ls)) ↔ l ∈ O ∧ l ∉ ls := fun {l} => by
    rw [List.mem_filter]
    simp
  have cx : Ex (cut H O) (cut H2 (O.filter fun l => !decide (l ∈ ls))) := (cut_shift (O := O) (fun l h => (own l h).1) e).trans (cut_less fun a ha => (mem.mp ha).1)
  refine ⟨⟨s.inv, ext_shift s.ext (fun l h => (s.fresh l (own l h).1).resolve_left (own l h).2) nb e, fun l h => s.fresh l (mem.mp h).1, fun l h => mem.mpr ⟨s.sub l h, fun z => (own l z).2 h⟩, fun l h => ?_, fun i d h n => ?_, fun l h n => s.quiet l (mem.mp h).1 n, fun i R d g h => ?_, fun i d h n => ?_, s.inj, s.len⟩, cx⟩
  · obtain ⟨h1, h2⟩ := mem.mp h
    obtain ⟨o, q⟩ := s.there l h1
    exact e.ther ((cut_out h2).trans q)
  · obtain ⟨v, h1, h2⟩ := s.sh i d h n
    exact ⟨v, h1, dp_ex cx h2⟩
  · obtain ⟨v, h1, h2⟩ := s.gho i R d g h
    exact ⟨v, h1, M.ghm i R g _ _ v d cx h2⟩
  · obtain ⟨l, o, h1, h2, h3, h5, h6⟩ := s.ow i d h n
    have z := far i d l n h h1
    exact ⟨l, o, h1, mem.mpr ⟨h2, z⟩, h3, e.at ((cut_out z).trans h5) (h6.nt (s.quiet l h2 h3)), h6.ex cx⟩
/-- a slot's own object is known again -/
theorem Sl.give (s : Sl K M H0 O0 O σ H env) {i : Nat} {l : Addr} {o : HO} {d : PyData} (hi : i ∈ M.ls) (hs : σ[i]? = some (some (.ref l))) (hO : l ∈ O) (hn : l ∉ O0) (ho : H l = some o) (hd : OwD K (cut H O) (dictS M i) o d) (pin : ∀ R, M.gh.lookup i = some R → ∀ H v, v = .ref l → R H v d) (far : ∀ j e, j ≠ i → j ∈ M.ls → env[j]? = some (some e) → σ[j]? ≠ some (some (.ref l))) : Sl K M H0 O0 O σ H (env.set i (some d)) := by
  refine ⟨s.inv, s.ext, s.fresh, s.sub, s.there, fun j e hj n => ?_, s.quiet, fun j R e g hj => ?_, fun j e hj n => ?_, fun j k e e' l' hj hk h1 h2 h3 h4 => ?_, by rw [List.length_set]; exact s.len⟩
  · rcases set_some hj with ⟨z, _, _⟩ | ⟨_, hj⟩
    · exact absurd (Or.inl (z ▸ hi)) n
    · exact s.sh j e hj n
  · rcases set_some hj with ⟨z, e1, _⟩ | ⟨_, hj⟩
    · subst z
      cases e1
      exact ⟨_, hs, pin R g _ _ rfl⟩
    · exact s.gho j R e g hj
  · rcases set_some hj with ⟨z, e1, _⟩ | ⟨_, hj⟩
    · subst z
      cases e1
      exact ⟨l, o, hs, hO, hn, ho, hd⟩
    · exact s.ow j e hj n
  · rcases set_some h1 with ⟨z, _, _⟩ | ⟨z, h1⟩
    · rcases set_some h2 with ⟨y, _, _⟩ | ⟨y, h2⟩
      · exact z.symm.trans y
      · subst z
        have el : l = l' := V.ref.inj (Option.some.inj (Option.some.inj (hs.symm.trans h3)))
        exact absurd (el ▸ h4) (far k e' (fun q => y q.symm) hk h2)
    · rcases set_some h2 with ⟨y, _, _⟩ | ⟨y, h2⟩
      · subst y
        have el : l = l' := V.ref.inj (Option.some.inj (Option.some.inj (hs.symm.trans h4)))
        exact absurd (el ▸ h3) (far j e (fun q => z q.symm) hj h1)
      · exact s.inj j k e e' l' hj hk h1 h2 h3 h4
end
section
variable {ι : Type} {X : ι → Cx} {K : PySem.W.Frag} {N : List Str} {k : Nat} {M : MM} {e : Expr} {te : TE} {me : En → Option PyData} {pos : Pos}
def mFld (i : Nat) (f : Str) : En → Option PyData := fun env => (mVar i env).bind fun d => match d with
  | .dict es => fldD f es
  | _ => none
theorem Sl.ins {M : MM} {H0 : Hp} {O0 O : List Addr} {σ : L2.St} {H : Hp} {env : En} (s : Sl K M H0 O0 O σ H env) {i c : Nat} {d : PyData} (h : env[i]? = some (some d)) (hi : i ∈ M.ls) (hn : dictS M i = c + 4) : ∃ l dx fs es, σ[i]? = some (some (.ref l)) ∧ l ∈ O ∧ l ∉ O0 ∧ d = .dict es ∧ H l = some (.ins (Lz.kc c) dx fs) ∧ KvF K (cut H O) c fs es ∧ fs.length < 1000 := by
  obtain ⟨l, o, h1, h2, h3, h5, h6⟩ := s.ow i d h hi
  rw [hn] at h6
  obtain ⟨dx, fs, es, rfl, h7, h8, h9⟩ := h6
  exact ⟨l, dx, fs, es, h1, h2, h3, h7, h5, h8, h9⟩
theorem d_fld (F : Fam X K N k) (i c : Nat) (f : Str) {x : Str} {p1 : Pos} (hC : Cls K (Lz.kc c)) (hA : NoAttr K (Lz.kc c) f) (hk : Lz.fk c f = .data) (hi : i ∈ M.ls := by first | decide | exact mmIn rfl) (hd : dictS M i = c + 4 := by first | decide | rfl) (hp : ∀ j, PE (X j) (.Name x p1) (tVar i) := by exact fun _ => pv _)
    (hb : ∀ j, attributeBase (.Name x p1) f (X j).env (eval (.Name x p1) (X j).env) = eval (.Name x p1) (X j).env := by exact fun _ => rfl) : MD X K M (.Attribute (.Name x p1) f pos) (tFld K (tVar i) f) (mFld i f) :=
  ⟨fun j => by
    have z := pe_fld (pos := pos) (hp j) (hb j)
    rw [F.hK j] at z
    exact z, fun H0 O0 O σ H env d s hm Q q => by
    obtain ⟨d1, g1, g2⟩ := bind1 hm
    obtain ⟨l, dx, fs, es, h1, h2, h3, rfl, h5, h6, h7⟩ := s.ins (join_some g1) hi hd
    obtain ⟨v, w1, w2⟩ := (kvf_look h6).2 d g2
    rw [hk] at w2
    exact ⟨_, h1, l, _, dx, fs, v, rfl, h5, hC, hA, w1, q v H (ExT.refl H) w2⟩⟩
def mPutF (i : Nat) (f : Str) (me : En → Option PyData) : En → Option Fl := fun env => (me env).bind fun d => (mVar i env).bind fun s => match s with
  | .dict es => if es.length < 900 then some (.nx (env.set i (some (.dict (putFD f d es))))) else none
  | _ => none
/-- x.f = e -/
theorem s_putF (F : Fam X K N k) (i c : Nat) (f : Str) {x : Str} {p1 p2 : Pos} (h : MD X K M e te me) (hC : Cls K (Lz.kc c)) (hA : NoAttr K (Lz.kc c) f) (hk : Lz.fk c f = .data) (hi : i ∈ M.ls := by first | decide | exact mmIn rfl) (hd : dictS M i = c + 4 := by first | decide | rfl) (hp : ∀ j, PE (X j) (.Name x p1) (tVar i) := by exact fun _ => pv _)
    (hs : ∀ j, swapsWith e (some (.Attribute (.Name x p1) f p2)) pos.line (X j).env = pure false := by exact fun _ => rfl) : MS X K M (.Assign [.Attribute (.Name x p1) f p2] e pos) (sFld K (tVar i) te f) (mPutF i f me) :=
  ⟨fun j => by
    have z := ps_fld (hp j) (h.pe j) (hs j)
    rw [F.hK j] at z
    exact z, fun H0 O0 O σ H env fl D s hm q => by
    obtain ⟨d, g1, g2⟩ := bind1 hm
    obtain ⟨st, g3, g4⟩ := bind1 g2
    refine h.sd H0 O0 O σ H env d s g1 _ fun v H1 e1 hv => ?_
    have s1 := s.ex e1
    obtain ⟨l, dx, fs, es, h1, h2, h3, rfl, h5, h6, h7⟩ := s1.ins (join_some g3) hi hd
    obtain ⟨sz, eq⟩ := ite_some (show (if es.length < 900 then some (Fl.nx (env.set i (some (.dict (putFD f d es))))) else none) = some fl from g4)
    cases eq
    have fl_ := kvf_len h6
    refine ⟨_, h1, l, _, dx, fs, rfl, h5, hC, hA, by omega, ?_⟩
    refine q σ _ O (s1.writeG hi (join_some g3) h1 h2 h3 ?_) ?_
    · rw [hd]
      refine ⟨dx, _, _, rfl, rfl, kvf_put ?_ h6, ?_⟩
      · rw [hk]
        exact hv
      · have := length_putF f v fs
        omega
    · rw [cut_write h2]
      exact cut_mono e1⟩
end
end Rv
namespace Rv
open PySem L2 PySem.Spec PyProof.Rows
variable [Lz]
inductive StA (K : PySem.W.Frag) (H : Hp) (O : List Addr) : List Addr → List Nat → List PyData → Prop
  | nil : StA K H O [] [] []
  | cons {l : Addr} {o : HO} {c : Nat} {s : PyData} {ls : List Addr} {ks : List Nat} {ss : List PyData} : H l = some o → OwD K (cut H O) (c + 4) o s → StA K H O ls ks ss → StA K H O (l :: ls) (c :: ks) (s :: ss)
/-- slots of own instances, and their classes -/
abbrev Ss := List (Nat × Nat)
def getS : Ss → En → Option (List PyData)
  | [], _ => some []
  | p :: r, env => (mVar p.1 env).bind fun s => (getS r env).bind fun ss => some (s :: ss)
def setS : Ss → List PyData → En → En
  | p :: r, s :: ss, env => setS r ss (env.set p.1 (some s))
  | _, _, env => env
def clrS : Ss → En → En
  | p :: r, env => clrS r (env.set p.1 none)
  | [], env => env
/-- the slots are own instances of these classes, unlike -/
structure OkS (M : MM) (is : Ss) : Prop where
  own : ∀ p ∈ is, p.1 ∈ M.ls ∧ dictS M p.1 = p.2 + 4
  nd : (is.map Prod.fst).Nodup
/-- .. the addresses that they hold -/
inductive AtS (M : MM) (σ : L2.St) (env : En) (O O0 : List Addr) : Ss → List Addr → Prop
  | nil : AtS M σ env O O0 [] []
  | cons {p : Nat × Nat} {l : Addr} {is : Ss} {ls : List Addr} : σ[p.1]? = some (some (.ref l)) → l ∈ O → l ∉ O0 → (∃ d, env[p.1]? = some (some d)) → AtS M σ env O O0 is ls → AtS M σ env O O0 (p :: is) (l :: ls)
section
variable {K : PySem.W.Frag} {M : MM} {H0 : Hp} {O0 O : List Addr} {σ : L2.St} {H H2 : Hp} {env : En}
theorem AtS.mem {is : Ss} {ls : List Addr} (a : AtS M σ env O O0 is ls) : ∀ l ∈ ls, l ∈ O ∧ l ∉ O0 ∧ ∃ p ∈ is, σ[p.1]? = some (some (.ref l)) ∧ ∃ d, env[p.1]? = some (some d) := by
  induction a with
  | nil => exact fun _ h => nomatch h
  | cons h1 h2 h3 h4 _ ih =>
    intro l hl
    obtain rfl | hl := List.mem_cons.mp hl
    · exact ⟨h2, h3, _, List.mem_cons_self, h1, h4⟩
    · obtain ⟨a1, a2, p, hp, a3⟩ := ih l hl
      exact ⟨a1, a2, p, List.mem_cons_of_mem _ hp, a3⟩
theorem Sl.states (s : Sl K M H0 O0 O σ H env) : ∀ {is : Ss} {ss : List PyData}, (∀ p ∈ is, p.1 ∈ M.ls ∧ dictS M p.1 = p.2 + 4) → getS is env = some ss → ∃ ls, AtS M σ env O O0 is ls ∧ StA K H O ls (is.map Prod.snd) ss
  | [], ss, _, h => by
    cases h
    exact ⟨[], .nil, .nil⟩
  | p :: is, ss, ok, h => by
    obtain ⟨d, g1, g2⟩ := bind1 (show ((mVar p.1 env).bind _) = some ss from h)
    obtain ⟨sr, g3, g4⟩ := bind1 g2
    cases g4
    obtain ⟨o1, o2⟩ := ok p List.mem_cons_self
    obtain ⟨l, o, h1, h2, h3, h5, h6⟩ := s.ow p.1 d (join_some g1) o1
    rw [o2] at h6
    obtain ⟨ls, a1, a2⟩ := s.states (is := is) (fun q hq => ok q (List.mem_cons_of_mem _ hq)) g3
    exact ⟨l :: ls, .cons h1 h2 h3 ⟨d, join_some g1⟩ a1, .cons h5 h6 a2⟩
theorem Sl.nodup (s : Sl K M H0 O0 O σ H env) {is : Ss} {ls : List Addr} (ok : ∀ p ∈ is, p.1 ∈ M.ls ∧ dictS M p.1 = p.2 + 4) (nd : (is.map Prod.fst).Nodup) (a : AtS M σ env O O0 is ls) : ls.Nodup := by
  induction a with
  | nil => exact .nil
  | @cons p l is ls h1 h2 h3 h4 r ih =>
    (rw [List.map_cons, List.nodup_cons] at nd)
    refine List.nodup_cons.mpr ⟨fun z => ?_, ih (fun q hq => ok q (List.mem_cons_of_mem _ hq)) nd.2⟩
    obtain ⟨_, _, q, hq, w1, d2, w2⟩ := r.mem l z
    obtain ⟨d1, w3⟩ := h4
    have e := s.inj p.1 q.1 d1 d2 l (ok p List.mem_cons_self).1 (ok q (List.mem_cons_of_mem _ hq)).1 w3 w2 h1 w1
    exact nd.1 (List.mem_map.mpr ⟨q, hq, e.symm⟩)
theorem nb_at (s : Sl K M H0 O0 O σ H env) {is : Ss} {ls : List Addr} (ok : ∀ p ∈ is, p.1 ∈ M.ls ∧ dictS M p.1 = p.2 + 4) (a : AtS M σ env O O0 is ls) : ∀ l ∈ ls, ∀ o, H l = some o → (∀ ps, o ≠ .tbl ps) ∧ ∀ φ, o ≠ .ext φ := fun l hl o ho => by
  obtain ⟨_, _, q, hq, w1, d, w2⟩ := a.mem l hl
  obtain ⟨l2, o2, h1, _, _, h5, h6⟩ := s.ow q.1 d w2 (ok q hq).1
  have e : l = l2 := V.ref.inj (Option.some.inj (Option.some.inj (w1.symm.trans h1)))
  subst e
  obtain rfl : o = o2 := Option.some.inj (ho.symm.trans h5)
  exact ⟨h6.notb, h6.noext⟩
/-- the slots is forgotten -/
theorem clr_sl : ∀ (is : Ss) {env : En}, Sl K M H0 O0 O σ H env → Sl K M H0 O0 O σ H (clrS is env)
  | [], _, s => s
  | p :: is, _, s => clr_sl is (s.forget p.1)
theorem clr_get : ∀ {is : Ss} {env : En} {j : Nat} {d : PyData}, (clrS is env)[j]? = some (some d) → j ∉ is.map Prod.fst ∧ env[j]? = some (some d)
  | [], _, _, _, h => ⟨(fun z => nomatch z), h⟩
  | p :: is, env, j, d, h => by
    obtain ⟨a, b⟩ := clr_get (is := is) (env := env.set p.1 none) h
    rcases set_some b with ⟨_, z, _⟩ | ⟨z, b⟩
    · cases z
    · exact ⟨fun y => (List.mem_cons.mp y).elim (fun w => z w.symm) a, b⟩
theorem far_clr (s : Sl K M H0 O0 O σ H env) {is : Ss} {ls : List Addr} (ok : ∀ p ∈ is, p.1 ∈ M.ls ∧ dictS M p.1 = p.2 + 4) (a : AtS M σ env O O0 is ls) : ∀ i d l, i ∈ M.ls → (clrS is env)[i]? = some (some d) → σ[i]? = some (some (.ref l)) → l ∉ ls := fun i d l hi h hs hl => by
  obtain ⟨z, b⟩ := clr_get h
  obtain ⟨_, _, q, hq, w1, d2, w2⟩ := a.mem l hl
  have e := s.inj i q.1 d d2 l hi (ok q hq).1 b w2 hs w1
  exact z (List.mem_map.mpr ⟨q, hq, e.symm⟩)
theorem pin_at (s : Sl K M H0 O0 O σ H env) {i : Nat} {l : Addr} {d : PyData} (hi : i ∈ M.ls) (h : env[i]? = some (some d)) (hs : σ[i]? = some (some (.ref l))) : ∀ R, M.gh.lookup i = some R → ∀ H v d, v = .ref l → R H v d := fun R g H v d2 e => by
  obtain ⟨⟨pl, rfl⟩, _⟩ := M.dis i hi R g
  obtain ⟨v2, g1, g2⟩ := s.gho i _ d g h
  have g2 : v2 = .ref pl := g2
  rw [g2] at g1
  show v = .ref pl
  rw [e]
  exact Option.some.inj (Option.some.inj (hs.symm.trans g1))
/-- the slots is, known again -/
theorem give_all : ∀ {is : Ss} {ls : List Addr} {ss : List PyData} {e2 : En}, Sl K M H0 O0 O σ H2 e2 → (∀ p ∈ is, p.1 ∈ M.ls ∧ dictS M p.1 = p.2 + 4) → (is.map Prod.fst).Nodup → ls.Nodup → AtS M σ env O O0 is ls → StA K H2 O ls (is.map Prod.snd) ss →
    (∀ p ∈ is, ∀ l, σ[p.1]? = some (some (.ref l)) → ∀ R, M.gh.lookup p.1 = some R → ∀ H v d, v = .ref l → R H v d) → (∀ j e l, j ∈ M.ls → j ∉ is.map Prod.fst → e2[j]? = some (some e) → σ[j]? = some (some (.ref l)) → l ∉ ls) → Sl K M H0 O0 O σ H2 (setS is ss e2)
  | [], _, _, _, s, _, _, _, _, h, _, _ => by
    cases h
    exact s
  | p :: is, _, _, e2, s, ok, nd, nl, a, h, pin, far => by
    cases a with
    | @cons _ l _ ls h1 h2 h3 h4 r =>
      cases h with
      | @cons _ o _ sd _ _ ss ho hd rest =>
        (rw [List.map_cons, List.nodup_cons] at nd)
        have nl := List.nodup_cons.mp nl
        obtain ⟨o1, o2⟩ := ok p List.mem_cons_self
        have s2 := s.give (d := sd) o1 h1 h2 h3 ho (by rw [o2]; exact hd) (fun R g H v e => pin p List.mem_cons_self l h1 R g H v sd e) fun j e n hj he hs => by
          by_cases z : j ∈ (p :: is).map Prod.fst
          · rw [List.map_cons, List.mem_cons] at z
            obtain ⟨q, hq, e1⟩ := List.mem_map.mp (z.resolve_left n)
            subst e1
            have key : ∀ {is : Ss} {ls : List Addr}, AtS M σ env O O0 is ls → ∀ q ∈ is, ∃ l ∈ ls, σ[q.1]? = some (some (.ref l)) := fun {is ls} a => by
              induction a with
              | nil => exact fun _ h => nomatch h
              | cons g1 _ _ _ _ ih =>
                intro q hq
                obtain rfl | hq := List.mem_cons.mp hq
                · exact ⟨_, List.mem_cons_self, g1⟩
                · obtain ⟨l, hl, w⟩ := ih q hq
                  exact ⟨l, List.mem_cons_of_mem _ hl, w⟩
            obtain ⟨l2, hl2, w⟩ := key r q hq
            have : l = l2 := V.ref.inj (Option.some.inj (Option.some.inj (hs.symm.trans w)))
            exact nl.1 (this ▸ hl2)
          · exact far j e l hj z he hs List.mem_cons_self
        refine give_all (is := is) s2 (fun q hq => ok q (List.mem_cons_of_mem _ hq)) nd.2 nl.2 r rest (fun q hq => pin q (List.mem_cons_of_mem _ hq)) fun j e l2 hj n he hs hl => ?_
        by_cases z : j = p.1
        · subst z
          have : l = l2 := V.ref.inj (Option.some.inj (Option.some.inj (h1.symm.trans hs)))
          exact nl.1 (this ▸ hl)
        · rcases set_some he with ⟨y, _, _⟩ | ⟨_, he⟩
          · exact z y.symm
          · exact far j e l2 hj (fun y => (List.mem_cons.mp y).elim z n) he hs (List.mem_cons_of_mem _ hl)
/-- behind a call that changed the instances in the slots is -/
theorem Sl.after (s : Sl K M H0 O0 O σ H env) {is : Ss} (ok : OkS M is) {ls : List Addr} (a : AtS M σ env O O0 is ls) (e : ExT (cut H ls) H2) {ss : List PyData} (h : StA K H2 O ls (is.map Prod.snd) ss) : Sl K M H0 O0 O σ H2 (setS is ss (clrS is env)) ∧ Ex (cut H O) (cut H2 O) := by
  have mem := a.mem
  have th : ∀ {ls : List Addr} {ks : List Nat} {ss : List PyData}, StA K H2 O ls ks ss → ∀ l ∈ ls, ∃ o, H2 l = some o := fun {ls ks ss} z => by
    induction z with
    | nil => exact fun _ h => nomatch h
    | cons g _ _ ih =>
      intro l hl
      obtain rfl | hl := List.mem_cons.mp hl
      · exact ⟨_, g⟩
      · exact ih l hl
  have s1 := (clr_sl is s).shift (fun l hl => ⟨(mem l hl).1, (mem l hl).2.1⟩) (far_clr s ok.own a) (nb_at s ok.own a) e (th h)
  refine ⟨give_all s1 ok.own ok.nd (s.nodup ok.own ok.nd a) a h (fun p hp l hs => ?_) fun j x l hj n he hs => far_clr s ok.own a j x l hj he hs, cut_shift (fun l hl => (mem l hl).1) e⟩
  have key : ∀ {is : Ss} {ls : List Addr}, AtS M σ env O O0 is ls → ∀ q ∈ is, ∃ d, env[q.1]? = some (some d) := fun {is ls} a => by
    induction a with
    | nil => exact fun _ h => nomatch h
    | cons _ _ _ g4 _ ih =>
      intro q hq
      obtain rfl | hq := List.mem_cons.mp hq
      · exact g4
      · exact ih q hq
  obtain ⟨d, hd⟩ := key a p hp
  exact pin_at s (ok.own p hp).1 hd hs
/-- behind an error out of such a call -/
theorem Sl.afterX (s : Sl K M H0 O0 O σ H env) {is : Ss} (ok : OkS M is) {ls : List Addr} (a : AtS M σ env O O0 is ls) (e : ExT (cut H ls) H2) : ∃ O2, Sl K M H0 O0 O2 σ H2 (clrS is env) ∧ Ex (cut H O) (cut H2 O2) := by
  have mem := a.mem
  exact ⟨_, (clr_sl is s).less (fun l hl => ⟨(mem l hl).1, (mem l hl).2.1⟩) (far_clr s ok.own a) (nb_at s ok.own a) e⟩
end
def spS (K : PySem.W.Frag) (J : Hp → Prop) (mg : Str → Option Value) (ks : List Nat) (n : Nat) (f : List PyData → List PyData → Option ((PyData × List PyData) ⊕ Str)) : Sp := fun vs H Q E => ∃ (ls : List Addr) (us : List V) (ss ds : List PyData) (r : (PyData × List PyData) ⊕ Str) (O : List Addr), J H ∧ vs = ls.map .ref ++ us ∧ us.length = n ∧ ls.Nodup ∧ (∀ l ∈ ls, l ∈ O ∧ Lz.z l = none) ∧ StA K H O ls ks ss ∧ (∀ l ∈ O, ∃ o, H l = some o) ∧ DpAll K (cut H O) us ds ∧ f ss ds = some r ∧
  (∀ d ss', r = .inl (d, ss') → ∀ v H2, ExT (cut H ls) H2 → StA K H2 O ls ks ss' → Dp K (cut H2 O) v d → Q v H2) ∧ (∀ cn, r = .inr cn → ∀ C H2, mg cn = some (.ref C) → ExT (cut H ls) H2 → E (.ref C) none H2)
inductive Zx (α : Type) where
  | val (d : α) (env : En) | xc (c : Str) (env : En)
def ContZ (K : PySem.W.Frag) (M : MM) (mg : Str → Option Value) (H0 : Hp) (O0 O : List Addr) (σ : L2.St) (H : Hp) (Q : VK) (W : WX) : Zx PyData → Prop
  | .val d env => ∀ v H' O', Sl K M H0 O0 O' σ H' env → Ex (cut H O) (cut H' O') → Dp K (cut H' O') v d → Q v H'
  | .xc c env => ∀ C H' O', mg c = some (.ref C) → Sl K M H0 O0 O' σ H' env → Ex (cut H O) (cut H' O') → W (.ref C) none σ H'
def ContZA (K : PySem.W.Frag) (M : MM) (mg : Str → Option Value) (H0 : Hp) (O0 O : List Addr) (σ : L2.St) (H : Hp) (Q : List V → Hp → Prop) (W : WX) : Zx (List PyData) → Prop
  | .val ds env => ∀ vs H' O', Sl K M H0 O0 O' σ H' env → Ex (cut H O) (cut H' O') → DpAll K (cut H' O') vs ds → Q vs H'
  | .xc c env => ∀ C H' O', mg c = some (.ref C) → Sl K M H0 O0 O' σ H' env → Ex (cut H O) (cut H' O') → W (.ref C) none σ H'
def ContZT (K : PySem.W.Frag) (M : MM) (mg : Str → Option Value) (H0 : Hp) (O0 O : List Addr) (σ : L2.St) (H : Hp) (Q : Bool → Hp → Prop) (W : WX) : Zx Bool → Prop
  | .val b env => ∀ H' O', Sl K M H0 O0 O' σ H' env → Ex (cut H O) (cut H' O') → Q b H'
  | .xc c env => ∀ C H' O', mg c = some (.ref C) → Sl K M H0 O0 O' σ H' env → Ex (cut H O) (cut H' O') → W (.ref C) none σ H'
def SndZ (K : PySem.W.Frag) (M : MM) (mg : Str → Option Value) (t : WX → TE) (m : En → Option (Zx PyData)) : Prop := ∀ W H0 O0 O σ H env z Q, Sl K M H0 O0 O σ H env → m env = some z → ContZ K M mg H0 O0 O σ H Q W z → t W σ H Q
def SndZA (K : PySem.W.Frag) (M : MM) (mg : Str → Option Value) (t : WX → TA) (m : En → Option (Zx (List PyData))) : Prop := ∀ W H0 O0 O σ H env z Q, Sl K M H0 O0 O σ H env → m env = some z → ContZA K M mg H0 O0 O σ H Q W z → t W σ H Q
def SndZT (K : PySem.W.Frag) (M : MM) (mg : Str → Option Value) (t : WX → TT) (m : En → Option (Zx Bool)) : Prop := ∀ W H0 O0 O σ H env z Q, Sl K M H0 O0 O σ H env → m env = some z → ContZT K M mg H0 O0 O σ H Q W z → t W σ H Q
structure MZ {ι : Type} (X : ι → Cx) (W : ι → WX) (K : PySem.W.Frag) (mg : Str → Option Value) (M : MM) (e : Expr) (t : WX → TE) (m : En → Option (Zx PyData)) : Prop where
  pe : ∀ i, PE (X i) e (t (W i))
  sd : SndZ K M mg t m
structure MZA {ι : Type} (X : ι → Cx) (W : ι → WX) (K : PySem.W.Frag) (mg : Str → Option Value) (M : MM) (es : List Expr) (t : WX → TA) (m : En → Option (Zx (List PyData))) : Prop where
  pa : ∀ i, PA (X i) es (t (W i))
  sd : SndZA K M mg t m
structure MZT {ι : Type} (X : ι → Cx) (W : ι → WX) (K : PySem.W.Frag) (mg : Str → Option Value) (M : MM) (e : Expr) (t : WX → TT) (m : En → Option (Zx Bool)) : Prop where
  pt : ∀ i, PT (X i) e (t (W i))
  sd : SndZT K M mg t m
def zOf {α : Type} (m : En → Option α) : En → Option (Zx α) := fun env => (m env).bind fun d => some (.val d env)
def zBind {α β : Type} (m : En → Option (Zx α)) (g : α → En → Option (Zx β)) : En → Option (Zx β) := fun env => (m env).bind fun z => match z with
  | .val d env' => g d env'
  | .xc c env' => some (.xc c env')
def mNilZ : En → Option (Zx (List PyData)) := fun env => some (.val [] env)
def mConsZ (ne : En → Option (Zx PyData)) (m : En → Option (Zx (List PyData))) : En → Option (Zx (List PyData)) := zBind ne fun d => zBind m fun ds env => some (.val (d :: ds) env)
def mTupZ (m : En → Option (Zx (List PyData))) : En → Option (Zx PyData) := zBind m fun ds env => if ds.length ≤ sizeLine then some (.val (.tuple ds) env) else none
section
variable {ι : Type} {X : ι → Cx} {W : ι → WX} {K : PySem.W.Frag} {mg : Str → Option Value} {N : List Str} {k : Nat} {M : MM} {a b c e : Expr} {ta tb te : TE} {ma mb me : En → Option PyData} {za zb ze : WX → TE} {na nb ne : En → Option (Zx PyData)} {pos : Pos}
theorem z_of (h : MD X K M e te me) : MZ X W K mg M e (fun _ => te) (zOf me) := ⟨h.pe, fun V H0 O0 O σ H env z Q s hm q => by
  obtain ⟨d, g1, g2⟩ := bind1 hm
  cases g2
  exact h.sd H0 O0 O σ H env d s g1 _ fun v H2 e2 hv => q v H2 O (s.ex e2) (cut_mono e2) hv⟩
theorem za_nil : MZA X W K mg M [] (fun _ => tNil) mNilZ := ⟨fun _ => pa_nil, fun V H0 O0 O σ H env z Q s hm q => by
  cases hm
  exact q [] H O s erefl .nil⟩
theorem za_cons {es : List Expr} {t : WX → TA} {m : En → Option (Zx (List PyData))} (h : MZ X W K mg M e ze ne) (r : MZA X W K mg M es t m) (hs : ∀ i, starEach (e :: es) (X i).env = (false, eval e (X i).env) :: starEach es (X i).env := by exact fun _ => rfl) : MZA X W K mg M (e :: es) (fun V => tCons (ze V) (t V)) (mConsZ ne m) :=
  ⟨fun i => pa_cons (h.pe i) (r.pa i) (hs i), fun V H0 O0 O σ H env z Q s hm q => by
    obtain ⟨z1, g1, g2⟩ := bind1 hm
    refine h.sd V H0 O0 O σ H env z1 _ s g1 ?_
    cases z1 with
    | xc c env' =>
      cases g2
      exact q
    | val d env' =>
      intro v H1 O1 s1 x1 hv
      obtain ⟨z2, g3, g4⟩ := bind1 (show ((m env').bind _) = some z from g2)
      refine r.sd V H0 O0 O1 σ H1 env' z2 _ s1 g3 ?_
      cases z2 with
      | xc c env2 =>
        cases g4
        exact fun C H' O' g s' x => q C H' O' g s' (x1.trans x)
      | val ds env2 =>
        cases g4
        exact fun vs H' O' s' x hvs => q (v :: vs) H' O' s' (x1.trans x) (.cons (dp_ex x hv) hvs)⟩
/-- a tuple -/
theorem z_tup {es : List Expr} {x1} {t : WX → TA} {m : En → Option (Zx (List PyData))} (h : MZA X W K mg M es t m) : MZ X W K mg M (.Tuple es x1 pos) (fun V => tTup (t V)) (mTupZ m) :=
  ⟨fun i => pe_tup (h.pa i), fun V H0 O0 O σ H env z Q s hm qq => by
    obtain ⟨z1, g1, g2⟩ := bind1 hm
    refine h.sd V H0 O0 O σ H env z1 _ s g1 ?_
    cases z1 with
    | xc c env' =>
      cases g2
      exact qq
    | val ds env' =>
      obtain ⟨hz, eq⟩ := ite_some (show (if ds.length ≤ sizeLine then some (Zx.val (PyData.tuple ds) env') else none) = some z from g2)
      cases eq
      intro vs H1 O1 s1 x1 hv
      have few : vs.length ≤ sizeLine := by
        rw [dpAll_len hv]
        exact hz
      refine ⟨few, fun p hp => ?_⟩
      have e2 : ExT H1 (upd H1 p (.tup vs)) := ExT.new hp
      have np := s1.new hp
      refine qq _ _ O1 (s1.ex e2) (x1.trans (cut_mono e2)) (.tup (.inl (.inl ?_)) (dpAll_ex (cut_mono e2) hv))
      rw [cut_out np]
      exact upd_same⟩
end
end Rv
namespace Rv
open PySem L2 PySem.Spec PyProof.Rows
section
variable {X : Cx} {CX : CXT} {k : Nat} {C f : Addr} {fd : FuncData} {ps : List Str} {sp : Sp} {E : L2.St → XK} {m : Str} {p pos apos : Pos} {e o : Expr} {es : List Expr} {ta : TE} {t : TA}
def tMethE (C : Addr) (m : Str) (sp : Sp) (E : L2.St → XK) (ta : TE) (t : TA) : TE := fun σ H Q => ta σ H fun x H1 => ∃ b dx fs, x = .ref b ∧ H1 b = some (.ins C dx fs) ∧ fs.lookup m = none ∧ t σ H1 fun vs H2 => sp (x :: vs) H2 Q (E σ)
theorem pe_methE {pl : Sem Bool} (he : PE X o ta) (c : Cls X.K C) (hm : Meth X.K C m f) (F : FnOk X.prog X.w X.K X.mg X.base CX k f fd ps sp) (hr : Room k X.A) (hb : Binds X.K fd ps []) (hx : ∀ σ, PassesAt CX X σ (E σ)) (ha : PA X (e :: es) t)
    (hst : (starEach (e :: es) X.env) = (false, eval e X.env) :: starEach es X.env := by rfl) (hpl : (backTo pos (starEach es X.env)).any (·.1) = false := by rfl)
    (ht : eval (.Call (.Attribute o m apos) (e :: es) [] pos) X.env = (do let ov ← eval o X.env; standAt apos.atName; let (f, first) ← holding [ov] (getMethod ov m pl); callWith pos f first (backTo pos (starEach (e :: es) X.env)) (backToKw pos (keywordEach [] X.env))) := by rfl) :
    PE X (.Call (.Attribute o m apos) (e :: es) [] pos) (tMethE C m sp E ta t) := by
  constructor
  intro pins s σ H Q I h
  refine PySem.W.methodCall_KW (pl := pl) (thn (he.run pins s σ H _ I h) fun u s1 got => ?_) ht
  obtain ⟨x, H1, I1, rx, b, dx, fs, rfl, ea, l, q⟩ := got
  have eu : u = Value.ref b := rx
  rw [eu]
  refine getmeth_ok I1 ea c hm l (PySem.W.callWith_K (first := [.ref b]) (h₀ := X.base) I.ok.mod.kin hm.kp (thn (ha.run pos pins s1 σ H1 _ I1 q) fun us s2 after => ?_) hst hpl)
  obtain ⟨vs, H2, I2, r, q2⟩ := after
  exact ⟨I2.kIn, run_fnS (us := .ref b :: us) (vs := .ref b :: vs) F hr hb (hx σ) I2 (.cons rfl r) q2⟩
theorem pe_methE0 {pl : Sem Bool} (he : PE X o ta) (c : Cls X.K C) (hm : Meth X.K C m f) (F : FnOk X.prog X.w X.K X.mg X.base CX k f fd ps sp) (hr : Room k X.A) (hb : Binds X.K fd ps []) (hx : ∀ σ, PassesAt CX X σ (E σ))
    (ht : eval (.Call (.Attribute o m apos) [] [] pos) X.env = (do let ov ← eval o X.env; standAt apos.atName; let (f, first) ← holding [ov] (getMethod ov m pl); callWith pos f first (backTo pos (starEach [] X.env)) (backToKw pos (keywordEach [] X.env))) := by rfl) :
    PE X (.Call (.Attribute o m apos) [] [] pos) (tMethE C m sp E ta tNil) := by
  constructor
  intro pins s σ H Q I h
  refine PySem.W.methodCall_KW (pl := pl) (thn (he.run pins s σ H _ I h) fun u s1 got => ?_) ht
  obtain ⟨x, H1, I1, rx, b, dx, fs, rfl, ea, l, q⟩ := got
  have eu : u = Value.ref b := rx
  rw [eu]
  exact getmeth_ok I1 ea c hm l (PySem.W.callWith_K0 (first := [.ref b]) I1.kIn hm.kp (run_fnS (us := [.ref b]) (vs := [.ref b]) F hr hb (hx σ) I1 (.cons rfl .nil) q))
end
variable [Lz]
theorem ite_some' {c : Prop} [Decidable c] {α : Type} {a : Option α} {b : α} (h : (if c then a else none) = some b) : c ∧ a = some b := by
  by_cases z : c
  · rw [if_pos z] at h
    exact ⟨z, h⟩
  · rw [if_neg z] at h
    cases h
def tSt : Ss → TA → TA
  | [], t => t
  | p :: r, t => tCons (tVar p.1) (tSt r t)
section
variable {K : PySem.W.Frag} {M : MM} {H0 : Hp} {O0 O : List Addr} {σ : L2.St} {H H2 : Hp} {env : En}
theorem tSt_run {t : TA} : ∀ {is : Ss} {ls : List Addr} {Q : List V → Hp → Prop}, AtS M σ env O O0 is ls → t σ H (fun us H1 => Q (ls.map .ref ++ us) H1) → tSt is t σ H Q
  | [], _, Q, a, h => by
    cases a
    exact h
  | p :: is, _, Q, a, h => by
    cases a with
    | @cons _ l _ ls h1 _ _ _ r => exact ⟨_, h1, tSt_run (Q := fun us H2 => Q (.ref l :: us) H2) r h⟩
theorem at_same {env1 : En} {O1 : List Addr} : ∀ {is : Ss} {ls ls2 : List Addr}, AtS M σ env O O0 is ls → AtS M σ env1 O1 O0 is ls2 → ls = ls2
  | [], _, _, a, b => by
    cases a
    cases b
    rfl
  | p :: is, _, _, a, b => by
    cases a with
    | cons h1 _ _ _ r =>
      cases b with
      | cons g1 _ _ _ q =>
        have e := V.ref.inj (Option.some.inj (Option.some.inj (h1.symm.trans g1)))
        rw [e, at_same r q]
end
def doneS (is : Ss) (env : En) : (PyData × List PyData) ⊕ Str → Zx PyData
  | .inl (d, ss) => .val d (setS is ss (clrS is env))
  | .inr c => .xc c (clrS is env)
def mCS (is : Ss) (n : Nat) (fn : List PyData → List PyData → Option ((PyData × List PyData) ⊕ Str)) (ma : En → Option (Zx (List PyData))) : En → Option (Zx PyData) := fun env => (getS is env).bind fun _ => zBind ma (fun ds env1 => if ds.length = n then (getS is env1).bind fun ss => (fn ss ds).bind fun r => some (doneS is env1 r) else none) env
section
variable {ι : Type} {X : ι → Cx} {W : ι → WX} {K : PySem.W.Frag} {mg : Str → Option Value} {N : List Str} {k : Nat} {M : MM} {a b c e ce : Expr} {ta tb te : TE} {ma mb me : En → Option PyData} {za zb ze : WX → TE} {na nb ne : En → Option (Zx PyData)} {pos : Pos}
/-- the promise of a call, kept -/
theorem run_spS {V : WX} {is : Ss} {ks : List Nat} {n : Nat} {fn : List PyData → List PyData → Option ((PyData × List PyData) ⊕ Str)} (ok : OkS M is) (hks : is.map Prod.snd = ks) (hJ : ∀ H, M.J H → JJ H) {H0 H H1 : Hp} {O0 O O1 ls0 : List Addr} {σ : L2.St} {env env1 : En} {us : List L2.V} {ds : List PyData} {z : Zx PyData} {Q : VK} (a0 : AtS M σ env O O0 is ls0) (s1 : Sl K M H0 O0 O1 σ H1 env1) (x1 : Ex (cut H O) (cut H1 O1)) (hus : DpAll K (cut H1 O1) us ds)
    (g2 : (if ds.length = n then (getS is env1).bind fun ss => (fn ss ds).bind fun r => some (doneS is env1 r) else none) = some z) (q : ContZ K M mg H0 O0 O σ H Q V z) : spS K JJ mg ks n fn (ls0.map .ref ++ us) H1 Q (WE V σ) := by
  obtain ⟨hlen, g3⟩ := ite_some' g2
  obtain ⟨ss, g4, g5⟩ := bind1 g3
  obtain ⟨r, g6, g7⟩ := bind1 g5
  obtain ⟨ls, a1, st⟩ := s1.states ok.own g4
  obtain rfl := at_same a0 a1
  have mem := a1.mem
  refine ⟨ls0, us, ss, ds, r, O1, hJ _ (M.mono _ _ s1.ext s1.inv), rfl, by rw [dpAll_len hus]; exact hlen, s1.nodup ok.own ok.nd a1, fun l hl => ⟨(mem l hl).1, s1.quiet l (mem l hl).1 (mem l hl).2.1⟩, hks ▸ st, s1.there, hus, g6, fun d ss' er v H2 e2 st2 hd => ?_, fun cn er C H2 hC e2 => ?_⟩
  · subst er
    cases g7
    obtain ⟨s2, x2⟩ := s1.after ok a1 e2 (hks ▸ st2)
    exact q v H2 O1 s2 (x1.trans x2) hd
  · subst er
    cases g7
    obtain ⟨O2, s2, x2⟩ := s1.afterX ok a1 e2
    exact q C H2 O2 hC s2 (x1.trans x2)
/-- f(x, .., e, ..), x .. own instances -/
theorem z_call {is : Ss} {ks : List Nat} {n : Nat} {fn : List PyData → List PyData → Option ((PyData × List PyData) ⊕ Str)} {t : WX → TA} {mr : En → Option (Zx (List PyData))} (hp : ∀ i, PE (X i) ce (tCallS (spS K JJ mg ks n fn) (WE (W i)) (tSt is (t (W i))))) (h : SndZA K M mg t mr) (ok : OkS M is) (hJ : ∀ H, M.J H → JJ H) (hks : is.map Prod.snd = ks := by rfl) :
    MZ X W K mg M ce (fun V => tCallS (spS K JJ mg ks n fn) (WE V) (tSt is (t V))) (mCS is n fn mr) := ⟨hp, fun V H0 O0 O σ H env z Q s hm q => by
  obtain ⟨ss0, g0, hm⟩ := bind1 hm
  obtain ⟨ls0, a0, _⟩ := s.states ok.own g0
  refine tSt_run a0 ?_
  obtain ⟨z1, g1, g2⟩ := bind1 (show ((mr env).bind _) = some z from hm)
  refine h V H0 O0 O σ H env z1 _ s g1 ?_
  cases z1 with
  | xc c env' =>
    cases g2
    exact q
  | val ds env1 => exact fun us H1 O1 s1 x1 hus => run_spS ok hks hJ a0 s1 x1 hus g2 q⟩
def hasNo (m : Str) (i : Nat) (env : En) : Bool := match mVar i env with
  | some (.dict es) => (fldD m es).isNone
  | _ => false
/-- x.m(e, ..), x an own instance of the class c -/
def mMeth (m : Str) (i c n : Nat) (fn : List PyData → List PyData → Option ((PyData × List PyData) ⊕ Str)) (mr : En → Option (Zx (List PyData))) : En → Option (Zx PyData) := fun env => if hasNo m i env = true then mCS [(i, c)] n fn mr env else none
theorem z_meth {i c n : Nat} {m : Str} {fn : List PyData → List PyData → Option ((PyData × List PyData) ⊕ Str)} {t : WX → TA} {mr : En → Option (Zx (List PyData))} (hp : ∀ j, PE (X j) ce (tMethE (Lz.kc c) m (spS K JJ mg [c] n fn) (WE (W j)) (tVar i) (t (W j)))) (h : SndZA K M mg t mr) (ok : OkS M [(i, c)]) (hJ : ∀ H, M.J H → JJ H) :
    MZ X W K mg M ce (fun V => tMethE (Lz.kc c) m (spS K JJ mg [c] n fn) (WE V) (tVar i) (t V)) (mMeth m i c n fn mr) := ⟨hp, fun V H0 O0 O σ H env z Q s hm q => by
  obtain ⟨no, hm⟩ := ite_some' hm
  obtain ⟨ss0, g0, hm⟩ := bind1 hm
  obtain ⟨ls0, a0, st0⟩ := s.states ok.own g0
  cases a0 with
  | @cons _ l _ ls w1 w2 w3 w4 r =>
    cases r
    obtain ⟨d0, w4'⟩ := w4
    obtain ⟨l2, dx, fs, es, h1, h2, h3, rfl, h5, h6, h7⟩ := s.ins w4' (ok.own _ List.mem_cons_self).1 (ok.own _ List.mem_cons_self).2
    have el : l = l2 := L2.V.ref.inj (Option.some.inj (Option.some.inj (w1.symm.trans h1)))
    subst el
    have none_ : fs.lookup m = none := by
      refine (kvf_look h6).1 ?_
      unfold hasNo mVar at no
      have w4'' : env[i]? = some (some (.dict es)) := w4'
      rw [w4''] at no
      exact Option.isNone_iff_eq_none.mp no
    refine ⟨_, w1, l, dx, fs, rfl, h5, none_, ?_⟩
    obtain ⟨z1, g1, g2⟩ := bind1 (show ((mr env).bind _) = some z from hm)
    refine h V H0 O0 O σ H env z1 _ s g1 ?_
    cases z1 with
    | xc c env' =>
      cases g2
      exact q
    | val ds env1 => exact fun us H1 O1 s1 x1 hus => run_spS (ls0 := [l]) ok rfl hJ (.cons w1 w2 w3 ⟨_, w4'⟩ .nil) s1 x1 hus g2 q⟩
def mDataZ (n : Nat) (fn : List PyData → Option PyData) (mr : En → Option (Zx (List PyData))) : En → Option (Zx PyData) := zBind mr fun ds env => if ds.length = n then (fn ds).bind fun d => some (.val d env) else none
def mOpZ (f : PyData → PyData → Option PyData) (na nb : En → Option (Zx PyData)) : En → Option (Zx PyData) := zBind na fun x => zBind nb fun y env => (f x y).bind fun d => some (.val d env)
def mTruZ (ne : En → Option (Zx PyData)) : En → Option (Zx Bool) := zBind ne fun d env => (truD d).bind fun b => some (.val b env)
def mCmpZ (f : PyData → PyData → Option PyData) (na nb : En → Option (Zx PyData)) : En → Option (Zx Bool) := zBind (mOpZ f na nb) fun d env => match d with
  | .bool b => some (.val b env)
  | _ => none
def mNotZ (m : En → Option (Zx Bool)) : En → Option (Zx Bool) := zBind m fun b env => some (.val (!b) env)
/-- f(e, ..), f a def of data, among the arguments such calls -/
theorem z_data {n : Nat} {fn : List PyData → Option PyData} {t : WX → TA} {mr : En → Option (Zx (List PyData))} (hp : ∀ i, PE (X i) ce (tCall (spD K M.J n fn) [] E0 (t (W i)))) (h : SndZA K M mg t mr) : MZ X W K mg M ce (fun V => tCall (spD K M.J n fn) [] E0 (t V)) (mDataZ n fn mr) := ⟨hp, fun V H0 O0 O σ H env z Q s hm q => by
  obtain ⟨z1, g1, g2⟩ := bind1 hm
  refine h V H0 O0 O σ H env z1 _ s g1 ?_
  cases z1 with
  | xc c env' =>
    cases g2
    exact q
  | val ds env1 =>
    intro us H1 O1 s1 x1 hus
    obtain ⟨hlen, g3⟩ := ite_some' g2
    obtain ⟨d, g4, g5⟩ := bind1 g3
    cases g5
    exact ⟨ds, d, O1, M.mono _ _ s1.ext s1.inv, by rw [List.append_nil, dpAll_len hus]; exact hlen, s1.there, by rw [List.append_nil]; exact hus, g4, fun v H2 e2 hv => q v H2 O1 (s1.ex e2) (x1.trans (cut_mono e2)) hv⟩⟩
/-- an operator of two -/
theorem z_op2 {r : R2} {f : PyData → PyData → Option PyData} (hf : OpD K r f) (ha : MZ X W K mg M a za na) (hb : MZ X W K mg M b zb nb) : SndZ K M mg (fun V => tOp r (za V) (zb V)) (mOpZ f na nb) := fun V H0 O0 O σ H env z Q s hm q => by
  obtain ⟨z1, g1, g2⟩ := bind1 hm
  refine ha.sd V H0 O0 O σ H env z1 _ s g1 ?_
  cases z1 with
  | xc c env' =>
    cases g2
    exact q
  | val x env1 =>
    intro v H1 O1 s1 x1 hv
    obtain ⟨z2, g3, g4⟩ := bind1 (show ((nb env1).bind _) = some z from g2)
    refine hb.sd V H0 O0 O1 σ H1 env1 z2 _ s1 g3 ?_
    cases z2 with
    | xc c env2 =>
      cases g4
      exact fun C H' O' g s' x => q C H' O' g s' (x1.trans x)
    | val y env2 =>
      intro w H2 O2 s2 x2 hw
      obtain ⟨d, g5, g6⟩ := bind1 g4
      cases g6
      exact hf H2 O2 v w x y d s2.there (.inl (dp_ex x2 hv)) (.inl hw) g5 _ fun u H3 e3 hu => q u H3 O2 (s2.ex e3) ((x1.trans x2).trans (cut_mono e3)) hu
theorem zt_of {t : TT} {m : En → Option Bool} (h : MT X K M e t m) : MZT X W K mg M e (fun _ => t) (zOf m) := ⟨h.pt, fun V H0 O0 O σ H env z Q s hm q => by
  obtain ⟨d, g1, g2⟩ := bind1 hm
  cases g2
  exact h.sd H0 O0 O σ H env d s g1 _ fun H2 e2 => q H2 O (s.ex e2) (cut_mono e2)⟩
/-- by truth -/
theorem zt_tru (F : Fam X K N k) (h : MZ X W K mg M e ze ne) (he : ∀ i whole, isTrue e (X i).env whole = (do let v ← whole; standAt e.pos; holding [v] (truthy v)) := by exact fun _ _ => rfl) : MZT X W K mg M e (fun V σ H Q => ze V σ H fun x H' => ∃ k, TruV K x H' k ∧ Q k H') (mTruZ ne) := ⟨fun i => by
  have := pt_truth (h.pe i) (he i)
  rw [F.hK i] at this
  exact this, fun V H0 O0 O σ H env z Q s hm q => by
  obtain ⟨z1, g1, g2⟩ := bind1 hm
  refine h.sd V H0 O0 O σ H env z1 _ s g1 ?_
  cases z1 with
  | xc c env' =>
    cases g2
    exact q
  | val d env1 =>
    intro v H1 O1 s1 x1 hv
    obtain ⟨b, g3, g4⟩ := bind1 g2
    cases g4
    exact ⟨b, tru_dp (dp_ex cut_ex hv) g3, q H1 O1 s1 x1⟩⟩
theorem zt_cmp {r : R2} {op : CmpOp} {f : PyData → PyData → Option PyData} (ho : ∀ i, OpR (X i) (compareOp op) r) (hf : OpD K r f) (ha : MZ X W K mg M a za na) (hb : MZ X W K mg M b zb nb) (hm : behindInMarks op b = false := by first | exact nomark _ | rfl) :
    MZT X W K mg M (.Compare a [op] [b] pos) (fun V => tTest (tOp r (za V) (zb V))) (mCmpZ f na nb) := ⟨fun i => pt_cmpR (ho i) (ha.pe i) (hb.pe i) hm, fun V H0 O0 O σ H env z Q s hmm q => by
  obtain ⟨z1, g1, g2⟩ := bind1 hmm
  refine z_op2 hf ha hb V H0 O0 O σ H env z1 _ s g1 ?_
  cases z1 with
  | xc c env' =>
    cases g2
    exact q
  | val d env1 =>
    intro v H1 O1 s1 x1 hv
    cases d with
    | bool b0 =>
      cases g2
      cases hv
      exact ⟨b0, rfl, q H1 O1 s1 x1⟩
    | _ => cases g2⟩
theorem zt_not {t : WX → TT} {m : En → Option (Zx Bool)} (h : MZT X W K mg M e t m) : MZT X W K mg M (.UnaryOp .Not e pos) (fun V => tNot (t V)) (mNotZ m) := ⟨fun i => pt_not (h.pt i), fun V H0 O0 O σ H env z Q s hm q => by
  obtain ⟨z1, g1, g2⟩ := bind1 hm
  refine h.sd V H0 O0 O σ H env z1 _ s g1 ?_
  cases z1 with
  | xc c env' =>
    cases g2
    exact q
  | val b env1 =>
    cases g2
    exact fun H1 O1 s1 x1 => q H1 O1 s1 x1⟩
end
end Rv
namespace Rv
open PySem L2 PySem.Spec PyProof.Rows
variable [Lz]
inductive Fy where
  | nx (env : En) | rt (d : PyData) (env : En) | xc (c : Str) (env : En)
def ContY (K : PySem.W.Frag) (M : MM) (mg : Str → Option Value) (H0 : Hp) (O0 O : List Addr) (H : Hp) (D : Ends) (W : WX) : Fy → Prop
  | .nx env => ∀ σ' H' O', Sl K M H0 O0 O' σ' H' env → Ex (cut H O) (cut H' O') → D.nx σ' H'
  | .rt d env => ∀ v σ' H' O', Sl K M H0 O0 O' σ' H' env → Dp K (cut H' O') v d → D.rt v H'
  | .xc c env => ∀ C σ' H' O', mg c = some (.ref C) → Sl K M H0 O0 O' σ' H' env → Ex (cut H O) (cut H' O') → W (.ref C) none σ' H'
def SndY (K : PySem.W.Frag) (M : MM) (mg : Str → Option Value) (t : WX → TS) (m : En → Option Fy) : Prop :=
  ∀ W H0 O0 O σ H env fy D, Sl K M H0 O0 O σ H env → m env = some fy → ContY K M mg H0 O0 O H D W fy → t W D σ H
structure MY {ι : Type} (X : ι → Cx) (W : ι → WX) (K : PySem.W.Frag) (mg : Str → Option Value) (M : MM) (st : Stmt) (t : WX → TS) (m : En → Option Fy) : Prop where
  ps : ∀ i, PS (X i) st (t (W i))
  sd : SndY K M mg t m
structure MYs {ι : Type} (X : ι → Cx) (W : ι → WX) (K : PySem.W.Frag) (mg : Str → Option Value) (M : MM) (sts : List Stmt) (t : WX → TS) (m : En → Option Fy) : Prop where
  ps : ∀ i, PSs (X i) sts (t (W i))
  sd : SndY K M mg t m
theorem ContY.weaken {K : PySem.W.Frag} {M : MM} {mg : Str → Option Value} {H0 H H1 : Hp} {O0 O O1 : List Addr} {D : Ends} {V : WX} {fy : Fy} (e : Ex (cut H O) (cut H1 O1)) (h : ContY K M mg H0 O0 O H D V fy) : ContY K M mg H0 O0 O1 H1 D V fy := by
  cases fy with
  | nx env => exact fun σ' H' O' s x => h σ' H' O' s (e.trans x)
  | rt d env => exact h
  | xc c env => exact fun C σ' H' O' g s x => h C σ' H' O' g s (e.trans x)
section
variable {ι : Type} {X : ι → Cx} {W : ι → WX} {K : PySem.W.Frag} {mg : Str → Option Value} {N : List Str} {k : Nat} {M : MM} {e ce : Expr} {ze : WX → TE} {ne : En → Option (Zx PyData)} {pos : Pos}
def yOf (m : En → Option Fx) : En → Option Fy := fun env => (m env).bind fun f => match f with
  | .fl (.nx env') => some (.nx env')
  | .xc c env' => some (.xc c env')
  | _ => none
theorem snd_yof {t : WX → TS} {m : En → Option Fx} (h : SndX K M mg t m) : SndY K M mg t (yOf m) := fun V H0 O0 O σ H env fy D s hm q => by
  obtain ⟨fx, g1, g2⟩ := bind1 hm
  cases fx with
  | fl f =>
    cases f with
    | nx env' =>
      cases g2
      exact h V H0 O0 O σ H env _ D s g1 q
    | rt d => cases g2
    | bk env' => cases g2
    | ct env' => cases g2
  | xc c env' =>
    cases g2
    exact h V H0 O0 O σ H env _ D s g1 q
theorem y_of {st : Stmt} {t : WX → TS} {m : En → Option Fx} (h : MX X W K mg M st t m) : MY X W K mg M st t (yOf m) := ⟨h.ps, snd_yof h.sd⟩
theorem ys_nil : MYs X W K mg M [] (fun _ => tNext) (fun env => some (.nx env)) := ⟨fun _ => pss_nil, fun V H0 O0 O σ H env fy D s hm q => by
  cases hm
  exact q σ H O s erefl⟩
def mSeqY (m n : En → Option Fy) : En → Option Fy := fun env => (m env).bind fun f => match f with
  | .nx env' => n env'
  | f => some f
theorem ys_cons {st : Stmt} {rest : List Stmt} {t u : WX → TS} {m n : En → Option Fy} (h1 : MY X W K mg M st t m) (h2 : MYs X W K mg M rest u n) : MYs X W K mg M (st :: rest) (fun V => tSeq (t V) (u V)) (mSeqY m n) := ⟨fun i => pss_cons (h1.ps i) (h2.ps i), fun V H0 O0 O σ H env fy D s hm q => by
  obtain ⟨f, g1, g2⟩ := bind1 hm
  refine h1.sd V H0 O0 O σ H env f { D with nx := u V D } s g1 ?_
  cases f with
  | nx env' => exact fun σ' H' O' s' x => h2.sd V H0 O0 O' σ' H' env' fy D s' g2 (q.weaken x)
  | rt d env' =>
    cases g2
    exact q
  | xc c env' =>
    cases g2
    exact q⟩
theorem ys_one {st : Stmt} {t : WX → TS} {m : En → Option Fy} (h : MY X W K mg M st t m) : MYs X W K mg M [st] t m := ⟨fun i => pss_one (h.ps i), h.sd⟩
def mExprY (m : En → Option (Zx PyData)) : En → Option Fy := fun env => (m env).bind fun z => match z with
  | .val _ env' => some (.nx env')
  | .xc c env' => some (.xc c env')
theorem y_expr (h : MZ X W K mg M ce ze ne) (hs : ∀ i, swapsWith ce none pos.line (X i).env = pure false := by exact fun _ => rfl) : MY X W K mg M (.Expr ce pos) (fun V => tDrop (ze V)) (mExprY ne) := ⟨fun i => ps_expr (h.pe i) (hs i), fun V H0 O0 O σ H env fy D s hm q => by
  obtain ⟨z, g1, g2⟩ := bind1 hm
  refine h.sd V H0 O0 O σ H env z _ s g1 ?_
  cases z with
  | val d env' =>
    cases g2
    exact fun v H' O' s' x _ => q σ H' O' s' x
  | xc c env' =>
    cases g2
    exact fun C H' O' g s' x => q C σ H' O' g s' x⟩
def mAsgY (m : En → Option (Zx PyData)) (i : Nat) : En → Option Fy := fun env => (m env).bind fun z => match z with
  | .val d env' => some (.nx (env'.set i (some d)))
  | .xc c env' => some (.xc c env')
theorem y_asg (F : Fam X K N k) (i : Nat) {x : Str} {pos' : Pos} (h : MZ X W K mg M ce ze ne) (hi : i ∉ M := by first | decide | exact mmOut rfl) (hx : N[i]? = some x := by rfl) (hlo : ∀ j, Loc (X j).env.scope x := by first | exact fun _ => Or.inl rfl | exact fun _ => Or.inr rfl)
    (hs : ∀ j, swapsWith ce (some (.Name x pos')) pos.line (X j).env = pure false := by exact fun _ => rfl) (hf : ∀ j, (X j).fn x = true ∨ (X j).env.scope.names.lookup x = some .local := by first | exact fun _ => .inl rfl | exact fun _ => .inr rfl) :
    MY X W K mg M (.Assign [.Name x pos'] ce pos) (fun V => tAsg (ze V) (gName i)) (mAsgY ne i) := ⟨fun j => ps_set (by rw [F.hN j]; exact F.nd) (by rw [F.hN j]; exact hx) (hlo j) (h.pe j) (hs j) (hf j), fun V H0 O0 O σ H env fy D s hm q => by
  obtain ⟨z, g1, g2⟩ := bind1 hm
  refine h.sd V H0 O0 O σ H env z _ s g1 ?_
  cases z with
  | val d env' =>
    cases g2
    exact fun v H' O' s' x hv => q _ H' O' (s'.set hi hv) x
  | xc c env' =>
    cases g2
    exact fun C H' O' g s' x => q C σ H' O' g s' x⟩
def mRetY (m : En → Option (Zx PyData)) : En → Option Fy := fun env => (m env).bind fun z => match z with
  | .val d env' => some (.rt d env')
  | .xc c env' => some (.xc c env')
theorem y_ret (h : MZ X W K mg M ce ze ne) : MY X W K mg M (.Return (some ce) pos) (fun V => tRet (ze V)) (mRetY ne) := ⟨fun i => ps_ret (h.pe i), fun V H0 O0 O σ H env fy D s hm q => by
  obtain ⟨z, g1, g2⟩ := bind1 hm
  refine h.sd V H0 O0 O σ H env z _ s g1 ?_
  cases z with
  | val d env' =>
    cases g2
    exact fun v H' O' s' x hv => q v σ H' O' s' hv
  | xc c env' =>
    cases g2
    exact fun C H' O' g s' x => q C σ H' O' g s' x⟩
def mIfY (m : En → Option (Zx Bool)) (n p : En → Option Fy) : En → Option Fy := fun env => (m env).bind fun z => match z with
  | .val b env' => if b = true then n env' else p env'
  | .xc c env' => some (.xc c env')
theorem y_if {c : Expr} {t : WX → TT} {u w : WX → TS} {m : En → Option (Zx Bool)} {n p : En → Option Fy} {bs cs : List Stmt} (hc : MZT X W K mg M c t m) (ha : MYs X W K mg M bs u n) (hb : MYs X W K mg M cs w p) : MY X W K mg M (.If c bs cs pos) (fun V => tIfS (t V) (u V) (w V)) (mIfY m n p) := ⟨fun i => ps_if (hc.pt i) (ha.ps i) (hb.ps i), fun V H0 O0 O σ H env fy D s hm q => by
  obtain ⟨z, g1, g2⟩ := bind1 hm
  refine hc.sd V H0 O0 O σ H env z _ s g1 ?_
  cases z with
  | xc c env' =>
    cases g2
    exact fun C H' O' g s' x => q C σ H' O' g s' x
  | val b env' =>
    intro H1 O1 s1 x1
    cases b with
    | true =>
      rw [if_pos rfl]
      exact ha.sd V H0 O0 O1 σ H1 env' fy D s1 (by simpa using g2) (q.weaken x1)
    | false =>
      (rw [if_neg Bool.false_ne_true])
      exact hb.sd V H0 O0 O1 σ H1 env' fy D s1 (by simpa using g2) (q.weaken x1)⟩
end
def isOf (ks : List Nat) : Ss := (List.range ks.length).zip ks
def runS (N : Nat) (ks : List Nat) (m : En → Option Fy) : List PyData → List PyData → Option ((PyData × List PyData) ⊕ Str) := fun ss ds => (m ((ss ++ ds).map some ++ List.replicate (N - (ss ++ ds).length) none)).bind fun f => match f with
  | .nx env => (getS (isOf ks) env).bind fun ss' => some (.inl (.none, ss'))
  | .rt d env => (getS (isOf ks) env).bind fun ss' => some (.inl (d, ss'))
  | .xc c _ => some (.inr c)
theorem start_get {α : Type} {l : List α} {n i : Nat} {x : α} : (l.map some ++ List.replicate n (none : Option α))[i]? = some (some x) ↔ l[i]? = some x := by
  by_cases z : i < l.length
  · rw [List.getElem?_append_left (by rw [List.length_map]; exact z), List.getElem?_map]
    cases l[i]? with
    | none => simp
    | some y => simp
  · rw [List.getElem?_append_right (by rw [List.length_map]; omega), List.getElem?_eq_none (l := l) (by omega), List.getElem?_replicate]
    split <;> simp
section
variable {K : PySem.W.Frag} {M : MM} {H : Hp} {O : List Addr}
theorem StA.at_ {ls : List Addr} {ks : List Nat} {ss : List PyData} (a : StA K H O ls ks ss) : ∀ {i : Nat} {s : PyData}, ss[i]? = some s → ∃ l c o, ls[i]? = some l ∧ ks[i]? = some c ∧ H l = some o ∧ OwD K (cut H O) (c + 4) o s := by
  induction a with
  | nil => exact fun h => by simp at h
  | cons h1 h2 _ ih =>
    intro i s h
    cases i with
    | zero =>
      cases h
      exact ⟨_, _, _, rfl, rfl, h1, h2⟩
    | succ i => exact ih (i := i) h
theorem StA.lens {ls : List Addr} {ks : List Nat} {ss : List PyData} (a : StA K H O ls ks ss) : ls.length = ks.length ∧ ss.length = ks.length := by
  induction a with
  | nil => exact ⟨rfl, rfl⟩
  | cons _ _ _ ih => exact ⟨by rw [List.length_cons, List.length_cons, ih.1], by rw [List.length_cons, List.length_cons, ih.2]⟩
theorem StA.less {O2 : List Addr} (sub : ∀ a ∈ O2, a ∈ O) {ls : List Addr} {ks : List Nat} {ss : List PyData} (a : StA K H O ls ks ss) : StA K H O2 ls ks ss := by
  induction a with
  | nil => exact .nil
  | cons h1 h2 _ ih => exact .cons h1 (h2.ex (cut_less sub)) ih
theorem StA.there {ls : List Addr} {ks : List Nat} {ss : List PyData} (a : StA K H O ls ks ss) : ∀ l ∈ ls, ∀ o, H l = some o → (∀ ps, o ≠ .tbl ps) ∧ ∀ φ, o ≠ .ext φ := by
  induction a with
  | nil => exact fun _ h => nomatch h
  | cons h1 h2 _ ih =>
    intro l hl o ho
    obtain rfl | hl := List.mem_cons.mp hl
    · obtain rfl := Option.some.inj (h1.symm.trans ho)
      exact ⟨h2.notb, h2.noext⟩
    · exact ih l hl o ho
end
/-- the frame of such a def: the addresses that were handed in are pinned to the first slots -/
structure FrS (M : List Addr → MM) (ks : List Nat) (n : Nat) : Prop where
  J : ∀ as H, JJ H → (M as).J H
  own : ∀ as i c, ks[i]? = some c → i ∈ (M as).ls ∧ dictS (M as) i = c + 4
  pin : ∀ as i l, as.length = ks.length → as[i]? = some l → (M as).gh.lookup i = some fun _ v _ => v = .ref l
  low : ∀ as i, as.length = ks.length → i ∈ M as → ks.length ≤ i → ks.length + n ≤ i
theorem isOf_mem {ks : List Nat} {p : Nat × Nat} (h : p ∈ isOf ks) : ks[p.1]? = some p.2 := by
  obtain ⟨i, hi⟩ := List.getElem?_of_mem h
  obtain ⟨h1, h2⟩ := List.getElem?_zip_eq_some.mp hi
  rw [List.getElem?_range] at h1
  · rw [← Option.some.inj h1]
    exact h2
  · by_cases z : i < ks.length
    · exact z
    · rw [List.getElem?_eq_none (by omega)] at h2
      cases h2
theorem isOf_snd (ks : List Nat) : (isOf ks).map Prod.snd = ks := by
  unfold isOf
  exact List.map_snd_zip (by rw [List.length_range]; exact Nat.le_refl _)
section
variable {P : Program} {w : World} {K : PySem.W.Frag} {mg : Str → Option Value} {base : Heap} {N : List Str}
theorem start_sls {M : List Addr → MM} {ks : List Nat} {n N : Nat} (Fr : FrS M ks n) {H : Hp} {O ls : List Addr} {us : List L2.V} {ss ds : List PyData} (hJ : JJ H) (hl : us.length = n) (nd : ls.Nodup) (own : ∀ l ∈ ls, l ∈ O ∧ Lz.z l = none) (st : StA K H O ls ks ss) (ht : ∀ l ∈ O, ∃ o, H l = some o) (hv : DpAll K (cut H O) us ds) :
    Sl K (M ls) (cut H ls) (O.filter fun l => !decide (l ∈ ls)) O ((ls.map L2.V.ref ++ us).map some ++ List.replicate (N - (ls.map L2.V.ref ++ us).length) none) H ((ss ++ ds).map some ++ List.replicate (N - (ss ++ ds).length) none) := by
  have mem : ∀ {l : Addr}, l ∈ O.filter (fun l => !decide (l ∈ ls)) ↔ l ∈ O ∧ l ∉ ls := fun {l} => by
    rw [List.mem_filter]
    simp
  obtain ⟨l1, l2⟩ := st.lens
  have nb := st.there
  have lo : LoJ (cut H ls) := fun p I z => by
    obtain ⟨t, h1, h2⟩ := hJ.1 p I z
    refine ⟨t, (cut_out fun y => ?_).trans h1, h2⟩
    rw [(own p y).2] at z
    cases z
  have jc : JJ (cut H ls) := ⟨lo, tab_cut nb hJ.2⟩
  have len : us.length = ds.length := dpAll_len hv
  have refs : ∀ {i : Nat} {l : Addr}, ls[i]? = some l → ((ls.map L2.V.ref ++ us).map some ++ List.replicate (N - (ls.map L2.V.ref ++ us).length) none)[i]? = some (some (.ref l)) := fun {i l} h => by
    rw [start_get]
    have hi := (List.getElem?_eq_some_iff.mp h).1
    rw [List.getElem?_append_left (by rw [List.length_map]; exact hi), List.getElem?_map, h]
    rfl
  have states : ∀ {i : Nat} {d : PyData}, i < ks.length → ((ss ++ ds).map some ++ List.replicate (N - (ss ++ ds).length) none)[i]? = some (some d) → ss[i]? = some d := fun {i d} hi h => by
    rw [start_get, List.getElem?_append_left (by omega)] at h
    exact h
  have few : ∀ {i : Nat} {d : PyData}, ((ss ++ ds).map some ++ List.replicate (N - (ss ++ ds).length) none)[i]? = some (some d) → i < ks.length + n := fun {i d} h => by
    rw [start_get] at h
    have := (List.getElem?_eq_some_iff.mp h).1
    rw [List.length_append] at this
    omega
  refine ⟨Fr.J ls _ jc, ⟨⟨fun p t q _ => ?_, fun p ps q => ⟨.tbl ps, ?_⟩, fun p t I _ q => ⟨t, ?_, id⟩⟩, fun _ => hJ.2⟩, fun l h => ?_, fun l h => (mem.mp h).1, ht, fun i d h nm => ?_, fun l h hn => ?_, fun i R d g h => ?_, fun i d h hi => ?_, fun i j d e l hi hj h1 h2 h3 h4 => ?_, ?_⟩
  · by_cases z : p ∈ ls
    · rw [cut_in z] at q
      cases q
    · rw [cut_out z] at q
      exact q
  · by_cases z : p ∈ ls
    · rw [cut_in z] at q
      cases q
    · rw [cut_out z] at q
      exact q
  · by_cases z : p ∈ ls
    · rw [cut_in z] at q
      cases q
    · rw [cut_out z] at q
      exact q
  · by_cases z : l ∈ ls
    · exact .inr (cut_in z)
    · exact .inl (mem.mpr ⟨h, z⟩)
  · by_cases z : i < ks.length
    · have e : ks[i]? = some ks[i] := List.getElem?_eq_getElem z
      exact absurd (Or.inl (Fr.own ls i _ e).1) nm
    · rw [start_get, List.getElem?_append_right (by omega)] at h
      obtain ⟨v, h1, h2⟩ := dpAll_get' hv h
      refine ⟨v, ?_, h2⟩
      rw [start_get, List.getElem?_append_right (by rw [List.length_map]; omega), List.length_map, l1, ← l2]
      exact h1
  · by_cases z : l ∈ ls
    · exact (own l z).2
    · exact absurd (mem.mpr ⟨h, z⟩) hn
  · by_cases z : i < ks.length
    · have hs := states z h
      obtain ⟨l, c, o, g1, g2, g3, g4⟩ := st.at_ hs
      have g' := (Fr.pin ls i l l1 g1).symm.trans g
      cases g'
      exact ⟨_, refs g1, rfl⟩
    · have := Fr.low ls i l1 (.inr (by rw [g]; rfl)) (by omega)
      have := few h
      omega
  · by_cases z : i < ks.length
    · have hs := states z h
      obtain ⟨l, c, o, g1, g2, g3, g4⟩ := st.at_ hs
      have hm := List.mem_of_getElem? g1
      refine ⟨l, o, refs g1, (own l hm).1, fun y => (mem.mp y).2 hm, g3, ?_⟩
      rw [(Fr.own ls i c g2).2]
      exact g4
    · have := Fr.low ls i l1 (.inl hi) (by omega)
      have := few h
      omega
  · have low : ∀ {i : Nat} {d : PyData}, i ∈ (M ls).ls → ((ss ++ ds).map some ++ List.replicate (N - (ss ++ ds).length) none)[i]? = some (some d) → i < ks.length := fun {i d} hi h => by
      by_cases z : i < ks.length
      · exact z
      · have := Fr.low ls i l1 (.inl hi) (by omega)
        have := few h
        omega
    obtain ⟨a, c, o, g1, _⟩ := st.at_ (states (low hi h1) h1)
    obtain ⟨b, c2, o2, k1, _⟩ := st.at_ (states (low hj h2) h2)
    have ea : a = l := L2.V.ref.inj (Option.some.inj (Option.some.inj ((refs g1).symm.trans h3)))
    have eb : b = l := L2.V.ref.inj (Option.some.inj (Option.some.inj ((refs k1).symm.trans h4)))
    subst ea
    rw [eb] at k1
    obtain ⟨y1, y2⟩ := List.getElem?_eq_some_iff.mp g1
    obtain ⟨z1, z2⟩ := List.getElem?_eq_some_iff.mp k1
    have inj : ∀ {l : List Addr}, l.Nodup → ∀ (i j : Nat) (hi : i < l.length) (hj : j < l.length), l[i] = l[j] → i = j := fun {l} nd i j hi hj e => by
      rcases Nat.lt_trichotomy i j with a | a | a
      · exact absurd e (List.pairwise_iff_getElem.mp nd i j hi hj a)
      · exact a
      · exact absurd e.symm (List.pairwise_iff_getElem.mp nd j i hj hi a)
    exact inj nd _ _ y1 z1 (y2.trans z2.symm)
  · simp only [List.length_append, List.length_map, List.length_replicate]
    omega
/-- what such a body leaves -/
theorem ends_sls {M : List Addr → MM} {ks : List Nat} {n : Nat} (Fr : FrS M ks n) {H H' : Hp} {O O' ls : List Addr} {σ : L2.St} {env : En} {ss : List PyData} (l1 : ls.length = ks.length) (s : Sl K (M ls) (cut H ls) (O.filter fun l => !decide (l ∈ ls)) O' σ H' env) (h : getS (isOf ks) env = some ss) : StA K H' O ls ks ss ∧ ∀ a ∈ O, a ∈ O' := by
  have mem : ∀ {l : Addr}, l ∈ O.filter (fun l => !decide (l ∈ ls)) ↔ l ∈ O ∧ l ∉ ls := fun {l} => by
    rw [List.mem_filter]
    simp
  have ok : ∀ p ∈ isOf ks, p.1 ∈ (M ls).ls ∧ dictS (M ls) p.1 = p.2 + 4 := fun p hp => Fr.own ls p.1 p.2 (isOf_mem hp)
  obtain ⟨ls2, a, st⟩ := s.states ok h
  have same : ∀ {is : Ss} {ls2 : List Addr}, AtS (M ls) σ env O' (O.filter fun l => !decide (l ∈ ls)) is ls2 → (∀ p ∈ is, p.1 < ls.length) → ls2.map some = is.map fun p => ls[p.1]? := fun {is ls2} a => by
    induction a with
    | nil => exact fun _ => rfl
    | @cons p l is ls2 h1 h2 h3 h4 _ ih =>
      intro lt
      obtain ⟨d, h4⟩ := h4
      have z := lt p List.mem_cons_self
      have e : ls[p.1]? = some ls[p.1] := List.getElem?_eq_getElem z
      obtain ⟨v, w1, w2⟩ := s.gho p.1 _ d (Fr.pin ls p.1 _ l1 e) h4
      have w2 : v = .ref ls[p.1] := w2
      rw [w2] at w1
      have el : l = ls[p.1] := L2.V.ref.inj (Option.some.inj (Option.some.inj (h1.symm.trans w1)))
      rw [List.map_cons, List.map_cons, ih fun q hq => lt q (List.mem_cons_of_mem _ hq), e, el]
  have e2 : ls2 = ls := by
    have z := same a fun p hp => by
      have := (List.getElem?_eq_some_iff.mp (isOf_mem hp)).1
      omega
    have r : ((isOf ks).map fun p => ls[p.1]?) = ls.map some := by
      have e1 : ((isOf ks).map fun p => ls[p.1]?) = ((isOf ks).map Prod.fst).map fun i => ls[i]? := by rw [List.map_map]; rfl
      rw [e1, show (isOf ks).map Prod.fst = List.range ks.length from List.map_fst_zip (by rw [List.length_range]; exact Nat.le_refl _), ← l1]
      refine List.ext_getElem? fun i => ?_
      (rw [List.getElem?_map, List.getElem?_map])
      by_cases z : i < ls.length
      · rw [List.getElem?_range z, List.getElem?_eq_getElem z]
        simp [z]
      · rw [List.getElem?_eq_none (by rw [List.length_range]; omega), List.getElem?_eq_none (by omega)]
        rfl
    rw [r] at z
    exact List.map_inj_right (fun _ _ h => Option.some.inj h) |>.mp z
  subst e2
  rw [isOf_snd] at st
  have sub : ∀ b ∈ O, b ∈ O' := fun b hb => by
    by_cases z : b ∈ ls2
    · exact (a.mem b z).1
    · exact s.sub b (mem.mpr ⟨hb, z⟩)
  exact ⟨st.less sub, sub⟩
theorem fn_S {x qual : Str} {st : Stmt} {f : Addr} {fd : FuncData} {ps : List Str} {j n : Nat} {ks : List Nat} {M : List Addr → MM} {t : List Addr → WX → TS} {m : En → Option Fy} (F : Fun K x qual st f fd) (S : FnScope N ps (defScope st)) (Fr : FrS M ks n) (hps : ps.length = ks.length + n) (h : ∀ as, as.length = ks.length → MYs (defX P w K mg base N qual (defScope st) f j) defW K mg (M as) (defBody st) (t as) m) :
    FnOk P w K mg base (L2N.CX P w) (j + 1) f fd ps (spS K JJ mg ks n (runS N.length ks m)) := by
  refine okXN F S (fun vs H Q E hq => ?_) fun cdv A outer s H vs Q E hr hq => ?_
  · obtain ⟨ls, us, ss, ds, r, O, _, rfl, hl, _, _, sa, _⟩ := hq
    rw [List.length_append, List.length_map, sa.lens.1, hl, hps]
  · obtain ⟨ls, us, ss, ds, r, O, hJ, rfl, hl, nd, own, sa, ht, hv, hf, q1, q2⟩ := hq
    have l1 := sa.lens.1
    refine ⟨t ls fun cls d _ H => E cls d H, (h ls l1).ps ⟨⟨cdv, A, outer, s, H, E⟩, hr⟩, ?_⟩
    obtain ⟨fy, g1, g2⟩ := bind1 hf
    refine (h ls l1).sd _ (cut H ls) _ O _ H _ fy _ (start_sls (N := N.length) Fr hJ hl nd own sa ht hv) g1 ?_
    cases fy with
    | nx env =>
      obtain ⟨ss', g3, g4⟩ := bind1 g2
      cases g4
      exact fun σ' H' O' s' _ => q1 _ _ rfl _ H' s'.ext (ends_sls Fr l1 s' g3).1 .non
    | rt d env =>
      obtain ⟨ss', g3, g4⟩ := bind1 g2
      cases g4
      intro v σ' H' O' s' hd
      obtain ⟨e1, e2⟩ := ends_sls Fr l1 s' g3
      exact q1 _ _ rfl v H' s'.ext e1 (dp_ex (cut_less e2) hd)
    | xc c env =>
      cases g2
      exact fun C σ' H' O' hC s' _ => q2 _ rfl C H' hC s'.ext
end
end Rv
namespace Rv
open PySem L2 PySem.Spec PyProof.Rows
theorem passN {X : Cx} : Passes (L2N.CX X.prog X.w) X E0 := fun _ _ _ _ _ _ _ h => by
  obtain ⟨_, _, _, _, _, _, _, _, _, _, _, _, no⟩ := h
  exact no.elim
variable [Lz]
def whileY (mt : En → Option (Zx Bool)) (mb : En → Option Fy) : Nat → En → Option Fy
  | 0, _ => none
  | n + 1, env => (mt env).bind fun z => match z with
    | .xc c e => some (.xc c e)
    | .val b e => if b = true then (mb e).bind fun f => match f with
        | .nx e' => whileY mt mb n e'
        | f => some f
      else some (.nx e)
section
variable {ι : Type} {X : ι → Cx} {W : ι → WX} {K : PySem.W.Frag} {mg : Str → Option Value} {N : List Str} {k : Nat} {M : MM} {c e ce : Expr} {pos : Pos}
theorem y_while (fuel : Nat) {body : List Stmt} {t : WX → TT} {mt : En → Option (Zx Bool)} {tb : WX → TS} {m : En → Option Fy} (hp : ∀ i, PassesOwn (model (X i).prog (X i).w) (X i).A (X i).env (X i).xe) (hc : MZT X W K mg M c t mt) (hb : MYs X W K mg M body tb m) :
    MY X W K mg M (.While c body [] pos) (fun V => tWhile (t V) (tb V)) (whileY mt m fuel) := ⟨fun i => ps_while (hp i) (hc.pt i) (hb.ps i), fun V H0 O0 O σ H env fy D s hm q => by
  refine ⟨fun n σ' H' => ∃ O' env', Sl K M H0 O0 O' σ' H' env' ∧ Ex (cut H O) (cut H' O') ∧ whileY mt m n env' = some fy, ⟨fuel, O, env, s, erefl, hm⟩, fun n σ' H' w => ?_⟩
  obtain ⟨O', env', s', x', l'⟩ := w
  cases n with
  | zero => cases l'
  | succ n =>
    obtain ⟨z, g1, g2⟩ := bind1 (show ((mt env').bind _) = some fy from l')
    refine hc.sd V H0 O0 O' σ' H' env' z _ s' g1 ?_
    cases z with
    | xc c e1 =>
      cases g2
      exact fun C H1 O1 g s1 x1 => q C σ' H1 O1 g s1 (x'.trans x1)
    | val b e1 =>
      intro H1 O1 s1 x1
      have xx : Ex (cut H O) (cut H1 O1) := x'.trans x1
      cases b with
      | false =>
        (rw [if_neg Bool.false_ne_true])
        have g2 : some (Fy.nx e1) = some fy := by simpa using g2
        cases g2
        exact q σ' H1 O1 s1 xx
      | true =>
        rw [if_pos rfl]
        have g2 : ((m e1).bind fun f => match f with
          | .nx e' => whileY mt m n e'
          | f => some f) = some fy := by simpa using g2
        obtain ⟨f, z3, z4⟩ := bind1 g2
        refine ⟨fun σ2 H2 => ∃ O2 env2, Sl K M H0 O0 O2 σ2 H2 env2 ∧ Ex (cut H O) (cut H2 O2) ∧ whileY mt m n env2 = some fy, fun σ2 H2 p => ⟨n, Nat.lt_succ_self n, p⟩, ?_⟩
        refine hb.sd V H0 O0 O1 σ' H1 e1 f _ s1 z3 ?_
        cases f with
        | nx e => exact fun σ3 H3 O3 s3 x3 => ⟨O3, e, s3, xx.trans x3, z4⟩
        | rt d e =>
          cases z4
          exact q
        | xc c e =>
          cases z4
          exact fun C σ3 H3 O3 g s3 x3 => q C σ3 H3 O3 g s3 (xx.trans x3)⟩
end
def ContN (K : PySem.W.Frag) (M : MM) (mg : Str → Option Value) (c : Nat) (H0 : Hp) (O0 O : List Addr) (σ : L2.St) (H : Hp) (Q : VK) (W : WX) : Zx PyData → Prop
  | .val d env => ∀ l o H' O', Sl K M H0 O0 O' σ H' env → Ex (cut H O) (cut H' O') → l ∈ O' → l ∉ O0 → (∀ j e, j ∈ M.ls → env[j]? = some (some e) → σ[j]? ≠ some (some (.ref l))) → H' l = some o → OwD K (cut H' O') (c + 4) o d → Q (.ref l) H'
  | .xc x env => ∀ C H' O', mg x = some (.ref C) → Sl K M H0 O0 O' σ H' env → Ex (cut H O) (cut H' O') → W (.ref C) none σ H'
def SndN (K : PySem.W.Frag) (M : MM) (mg : Str → Option Value) (c : Nat) (t : WX → TE) (m : En → Option (Zx PyData)) : Prop := ∀ W H0 O0 O σ H env z Q, Sl K M H0 O0 O σ H env → m env = some z → ContN K M mg c H0 O0 O σ H Q W z → t W σ H Q
structure MN {ι : Type} (X : ι → Cx) (W : ι → WX) (K : PySem.W.Frag) (mg : Str → Option Value) (M : MM) (c : Nat) (e : Expr) (t : WX → TE) (m : En → Option (Zx PyData)) : Prop where
  pe : ∀ i, PE (X i) e (t (W i))
  sd : SndN K M mg c t m
/-- a def that gives a new instance -/
def spN (K : PySem.W.Frag) (J : Hp → Prop) (mg : Str → Option Value) (c n : Nat) (f : List PyData → Option (PyData ⊕ Str)) : Sp := fun vs H Q E => ∃ ds r O, J H ∧ vs.length = n ∧ (∀ l ∈ O, ∃ o, H l = some o) ∧ DpAll K (cut H O) vs ds ∧ f ds = some r ∧
  (∀ d, r = .inl d → ∀ l o H2, ExT H H2 → H l = none → H2 l = some o → OwD K (cut H2 (l :: O)) (c + 4) o d → Q (.ref l) H2) ∧ (∀ cn, r = .inr cn → ∀ C H2, mg cn = some (.ref C) → ExT H H2 → E (.ref C) none H2)
section
variable {ι : Type} {X : ι → Cx} {W : ι → WX} {K : PySem.W.Frag} {mg : Str → Option Value} {N : List Str} {k : Nat} {M : MM} {e ce : Expr} {pos : Pos} {c n : Nat}
def mMake (n : Nat) (fn : List PyData → List PyData → Option ((PyData × List PyData) ⊕ Str)) (mr : En → Option (Zx (List PyData))) : En → Option (Zx PyData) := zBind mr fun ds env => if ds.length = n then (fn [.dict []] ds).bind fun r => match r with
      | .inl (.none, [d]) => some (.val d env)
      | _ => none else none
def mNew (n : Nat) (fn : List PyData → Option (PyData ⊕ Str)) (mr : En → Option (Zx (List PyData))) : En → Option (Zx PyData) := zBind mr fun ds env => if ds.length = n then (fn ds).bind fun r => match r with
      | .inl d => some (.val d env)
      | .inr x => some (.xc x env) else none
def mAsgN (m : En → Option (Zx PyData)) (i : Nat) : En → Option Fy := fun env => if i < env.length then mAsgY m i env else none
/-- C(e, ..) -/
theorem n_make {fn : List PyData → List PyData → Option ((PyData × List PyData) ⊕ Str)} {t : WX → TA} {mr : En → Option (Zx (List PyData))} (hp : ∀ i, PE (X i) ce (tMake (Lz.kc c) (spS K JJ mg [c] n fn) [] E0 (t (W i)))) (h : SndZA K M mg t mr) (hJ : ∀ H, M.J H → JJ H) :
    MN X W K mg M c ce (fun V => tMake (Lz.kc c) (spS K JJ mg [c] n fn) [] E0 (t V)) (mMake n fn mr) := ⟨hp, fun V H0 O0 O σ H env z Q s hm q => by
  obtain ⟨z1, g1, g2⟩ := bind1 hm
  refine h V H0 O0 O σ H env z1 _ s g1 ?_
  cases z1 with
  | xc c env' =>
    cases g2
    exact q
  | val ds env1 =>
    intro us H1 O1 s1 x1 hus a dx ha hdx ne
    obtain ⟨hlen, g3⟩ := ite_some' g2
    obtain ⟨r, g4, g5⟩ := bind1 g3
    have no2 : upd H1 dx (.own a) a = none := (upd_ne (fun z => ne z.symm)).trans ha
    have ex : ExT H1 (upd (upd H1 dx (.own a)) a (.ins (Lz.kc c) dx [])) := (ExT.new hdx).trans (ExT.new no2)
    have cb := cut_beside (O := O1) ex ha
    have s2 := s1.beside ha cb ex ⟨_, upd_same⟩
    have na := s1.new ha
    have nO : a ∉ O0 := fun z => na (s1.sub a z)
    refine ⟨[a], us, [.dict []], ds, r, a :: O1, hJ _ (M.mono _ _ s2.ext s2.inv), by rw [List.append_nil]; rfl, by rw [dpAll_len hus]; exact hlen, List.pairwise_singleton _ _, fun l hl => ?_, .cons upd_same ⟨dx, [], [], rfl, rfl, .nil, by decide⟩ .nil, s2.there, dpAll_ex cb hus, g4, fun d ss' er v H2 e2 st2 hd => ?_, fun cn er => ?_⟩
    · rw [List.mem_singleton.mp hl]
      exact ⟨List.mem_cons_self, s1.calm ha⟩
    · subst er
      obtain ⟨dz, rfl, rfl, rfl⟩ : ∃ dz, d = .none ∧ ss' = [dz] ∧ z = .val dz env1 := by
        cases d <;> try cases g5
        match ss', g5 with
        | [dz], g5 =>
          cases g5
          exact ⟨dz, rfl, rfl, rfl⟩
      cases hd
      cases st2 with
      | @cons _ o _ _ _ _ _ h1 h2 _ =>
        refine ⟨rfl, ?_⟩
        have far : ∀ (i : Nat) (d : PyData) (l : Addr), i ∈ M.ls → env1[i]? = some (some d) → σ[i]? = some (some (.ref l)) → l ∉ [a] := fun i d l hi hd hs z => by
          obtain ⟨l2, o2, w1, w2, _⟩ := s1.ow i d hd hi
          have el : l = l2 := L2.V.ref.inj (Option.some.inj (Option.some.inj (hs.symm.trans w1)))
          rw [List.mem_singleton.mp z] at el
          exact na (el ▸ w2)
        have s3 := s2.shift (ls := [a]) (fun l hl => by rw [List.mem_singleton.mp hl]; exact ⟨List.mem_cons_self, nO⟩) far (fun l hl o ho => by
          rw [List.mem_singleton.mp hl] at ho
          obtain rfl := Option.some.inj (upd_same.symm.trans ho)
          exact ⟨(fun ps z => by cases z), (fun φ z => by cases z)⟩) e2 (fun l hl => by rw [List.mem_singleton.mp hl]; exact ⟨_, h1⟩)
        exact q a o H2 (a :: O1) s3 ((x1.trans cb).trans (cut_shift (fun l hl => by rw [List.mem_singleton.mp hl]; exact List.mem_cons_self) e2)) List.mem_cons_self nO (fun j e hj he hs => far j e a hj he hs (List.mem_singleton.mpr rfl)) h1 h2
    · subst er
      cases g5⟩
/-- f(e, ..), f a def that gives a new instance -/
theorem n_call {fn : List PyData → Option (PyData ⊕ Str)} {t : WX → TA} {mr : En → Option (Zx (List PyData))} (hp : ∀ i, PE (X i) ce (tCallS (spN K JJ mg c n fn) (WE (W i)) (t (W i)))) (h : SndZA K M mg t mr) (hJ : ∀ H, M.J H → JJ H) :
    MN X W K mg M c ce (fun V => tCallS (spN K JJ mg c n fn) (WE V) (t V)) (mNew n fn mr) := ⟨hp, fun V H0 O0 O σ H env z Q s hm q => by
  obtain ⟨z1, g1, g2⟩ := bind1 hm
  refine h V H0 O0 O σ H env z1 _ s g1 ?_
  cases z1 with
  | xc c env' =>
    cases g2
    exact q
  | val ds env1 =>
    intro us H1 O1 s1 x1 hus
    obtain ⟨hlen, g3⟩ := ite_some' g2
    obtain ⟨r, g4, g5⟩ := bind1 g3
    refine ⟨ds, r, O1, hJ _ (M.mono _ _ s1.ext s1.inv), by rw [dpAll_len hus]; exact hlen, s1.there, hus, g4, fun d er l o H2 e2 hl ho hd => ?_, fun cn er C H2 hC e2 => ?_⟩
    · subst er
      cases g5
      have nl := s1.new hl
      have cb := cut_beside (O := O1) e2 hl
      exact q l o H2 (l :: O1) (s1.beside hl cb e2 ⟨_, ho⟩) (x1.trans cb) List.mem_cons_self (fun z => nl (s1.sub l z)) (fun j e hj he hs => by
        obtain ⟨l2, o2, w1, w2, _⟩ := s1.ow j e he hj
        have el : l = l2 := L2.V.ref.inj (Option.some.inj (Option.some.inj (hs.symm.trans w1)))
        exact nl (el ▸ w2)) ho hd
    · subst er
      cases g5
      exact q C H2 O1 hC (s1.ex e2) (x1.trans (cut_mono e2))⟩
/-- x = a new instance -/
theorem y_asgN (F : Fam X K N k) (i : Nat) {x : Str} {pos' : Pos} {t : WX → TE} {m : En → Option (Zx PyData)} (h : MN X W K mg M c ce t m) (hi : i ∈ M.ls := by first | decide | exact mmIn rfl) (hd : dictS M i = c + 4 := by first | decide | rfl) (pn : M.gh.lookup i = none := by rfl) (hx : N[i]? = some x := by rfl) (hlo : ∀ j, Loc (X j).env.scope x := by first | exact fun _ => Or.inl rfl | exact fun _ => Or.inr rfl)
    (hs : ∀ j, swapsWith ce (some (.Name x pos')) pos.line (X j).env = pure false := by exact fun _ => rfl) (hf : ∀ j, (X j).fn x = true ∨ (X j).env.scope.names.lookup x = some .local := by first | exact fun _ => .inl rfl | exact fun _ => .inr rfl) :
    MY X W K mg M (.Assign [.Name x pos'] ce pos) (fun V => tAsg (t V) (gName i)) (mAsgN m i) := ⟨fun j => ps_set (by rw [F.hN j]; exact F.nd) (by rw [F.hN j]; exact hx) (hlo j) (h.pe j) (hs j) (hf j), fun V H0 O0 O σ H env fy D s hm q => by
  obtain ⟨li, hm⟩ := ite_some' hm
  obtain ⟨z, g1, g2⟩ := bind1 hm
  refine h.sd V H0 O0 O σ H env z _ s g1 ?_
  cases z with
  | val d env' =>
    cases g2
    intro l o H' O' s' x' m1 m2 far ho hod
    have s1 := s'.drop (i := i) (v := some (.ref l))
    have len : i < σ.length := by rw [s.len]; exact li
    have s2 := s1.give (l := l) (d := d) hi (by rw [List.getElem?_set_self len]) m1 m2 ho (by rw [hd]; exact hod) (fun R g => by rw [pn] at g; cases g) fun j e nj hj he hsl => by
      rw [List.getElem?_set_ne (fun z => nj z.symm)] at he hsl
      exact far j e hj he hsl
    rw [List.set_set] at s2
    exact q _ H' O' s2 x'
  | xc c env' =>
    cases g2
    exact fun C H' O' g s' x => q C σ H' O' g s' x⟩
end
end Rv
namespace Rv
open PySem L2 PySem.Spec PyProof.Rows
variable [Lz]
section
variable {K : PySem.W.Frag} {M : MM} {H0 : Hp} {O0 O : List Addr} {σ : L2.St} {H H2 : Hp} {env : En}
theorem sta_app {ls : List Addr} {ks : List Nat} {ss : List PyData} (a : StA K H O ls ks ss) {l : Addr} {o : HO} {c : Nat} {d : PyData} (h1 : H l = some o) (h2 : OwD K (cut H O) (c + 4) o d) : StA K H O (ls ++ [l]) (ks ++ [c]) (ss ++ [d]) := by
  induction a with
  | nil => exact .cons h1 h2 .nil
  | cons g1 g2 _ ih => exact .cons g1 g2 ih
theorem sta_cut : ∀ {ls : List Addr} {ks : List Nat} {S : List PyData} {l : Addr} {c : Nat}, ls.length = ks.length → StA K H O (ls ++ [l]) (ks ++ [c]) S → ∃ ss d o, S = ss ++ [d] ∧ StA K H O ls ks ss ∧ H l = some o ∧ OwD K (cut H O) (c + 4) o d
  | [], [], _, _, _, _, a => by
    cases a with
    | @cons _ o _ d _ _ ss h1 h2 r =>
      cases r
      exact ⟨[], d, o, rfl, .nil, h1, h2⟩
  | x :: ls, y :: ks, _, l, c, hl, a => by
    cases a with
    | @cons _ o _ d _ _ ss h1 h2 r =>
      obtain ⟨s2, d2, o2, rfl, r2, r3, r4⟩ := sta_cut (by simpa using hl) r
      exact ⟨d :: s2, d2, o2, rfl, .cons h1 h2 r2, r3, r4⟩
  | [], _ :: _, _, _, _, hl, _ => by cases hl
  | _ :: _, [], _, _, _, hl, _ => by cases hl
theorem sta_there {ls : List Addr} {ks : List Nat} {ss : List PyData} (a : StA K H O ls ks ss) : ∀ l ∈ ls, ∃ o, H l = some o := by
  induction a with
  | nil => exact fun _ h => nomatch h
  | cons g _ _ ih =>
    intro l hl
    obtain rfl | hl := List.mem_cons.mp hl
    · exact ⟨_, g⟩
    · exact ih l hl
theorem at_vals {is : Ss} {ls : List Addr} (a : AtS M σ env O O0 is ls) : ∀ q ∈ is, ∃ d, env[q.1]? = some (some d) := by
  induction a with
  | nil => exact fun _ h => nomatch h
  | cons _ _ _ g4 _ ih =>
    intro q hq
    obtain rfl | hq := List.mem_cons.mp hq
    · exact g4
    · exact ih q hq
/-- behind a call that changed the instances in the slots is, and one that no slot holds -/
theorem Sl.afterG (s : Sl K M H0 O0 O σ H env) {is : Ss} (ok : OkS M is) {ls : List Addr} {l : Addr} (a : AtS M σ env O O0 is ls) (m1 : l ∈ O) (m2 : l ∉ O0) (far : ∀ j e, j ∈ M.ls → env[j]? = some (some e) → σ[j]? ≠ some (some (.ref l))) (nbl : ∀ o, H l = some o → (∀ ps, o ≠ .tbl ps) ∧ ∀ φ, o ≠ .ext φ) (e : ExT (cut H (ls ++ [l])) H2) :
    (∀ ss, StA K H2 O ls (is.map Prod.snd) ss → (∃ o, H2 l = some o) → Sl K M H0 O0 O σ H2 (setS is ss (clrS is env)) ∧ Ex (cut H O) (cut H2 O)) ∧ ∃ O2, Sl K M H0 O0 O2 σ H2 (clrS is env) ∧ Ex (cut H O) (cut H2 O2) := by
  have mem := a.mem
  have own : ∀ x ∈ ls ++ [l], x ∈ O ∧ x ∉ O0 := fun x hx => by
    obtain h | h := List.mem_append.mp hx
    · exact ⟨(mem x h).1, (mem x h).2.1⟩
    · rw [List.mem_singleton.mp h]
      exact ⟨m1, m2⟩
  have fr : ∀ i d x, i ∈ M.ls → (clrS is env)[i]? = some (some d) → σ[i]? = some (some (.ref x)) → x ∉ ls ++ [l] := fun i d x hi hd hs hx => by
    obtain h | h := List.mem_append.mp hx
    · exact far_clr s ok.own a i d x hi hd hs h
    · rw [List.mem_singleton.mp h] at hs
      exact far i d hi (clr_get hd).2 hs
  have nb : ∀ x ∈ ls ++ [l], ∀ o, H x = some o → (∀ ps, o ≠ .tbl ps) ∧ ∀ φ, o ≠ .ext φ := fun x hx o ho => by
    obtain h | h := List.mem_append.mp hx
    · exact nb_at s ok.own a x h o ho
    · rw [List.mem_singleton.mp h] at ho
      exact nbl o ho
  refine ⟨fun ss h th => ?_, ⟨_, (clr_sl is s).less own fr nb e⟩⟩
  have s1 := (clr_sl is s).shift own fr nb e fun x hx => by
    obtain z | z := List.mem_append.mp hx
    · exact sta_there h x z
    · (rw [List.mem_singleton.mp z])
      exact th
  refine ⟨give_all s1 ok.own ok.nd (s.nodup ok.own ok.nd a) a h (fun p hp x hs => ?_) fun j d x hj n hd hs => far_clr s ok.own a j d x hj hd hs, cut_shift (fun x hx => (own x hx).1) e⟩
  obtain ⟨d, hd⟩ := at_vals a p hp
  exact pin_at s (ok.own p hp).1 hd hs
end
section
variable {ι : Type} {X : ι → Cx} {W : ι → WX} {K : PySem.W.Frag} {mg : Str → Option Value} {N : List Str} {k : Nat} {M : MM} {e ce : Expr} {pos : Pos} {c n : Nat}
def doneG (is : Ss) (env : En) : (PyData × List PyData) ⊕ Str → Option (Zx PyData)
  | .inl (d, S) => some (.val d (setS is S.dropLast (clrS is env)))
  | .inr x => some (.xc x (clrS is env))
def mCG (is : Ss) (n : Nat) (fn : List PyData → List PyData → Option ((PyData × List PyData) ⊕ Str)) (mn : En → Option (Zx PyData)) (ma : En → Option (List PyData)) : En → Option (Zx PyData) := fun env => (getS is env).bind fun _ => zBind mn (fun d0 env1 => (ma env1).bind fun ds => if ds.length = n then (getS is env1).bind fun ss => (fn (ss ++ [d0]) ds).bind fun r => doneG is env1 r else none) env
/-- f(x, .., C(..), e, ..): x .. own instances, C(..) a new one, e .. data -/
theorem z_callG {is : Ss} {ks : List Nat} {fn : List PyData → List PyData → Option ((PyData × List PyData) ⊕ Str)} {tn : WX → TE} {mn : En → Option (Zx PyData)} {ta : TA} {ma : En → Option (List PyData)} {nw : Expr} (hp : ∀ i, PE (X i) ce (tCallS (spS K JJ mg (ks ++ [c]) n fn) (WE (W i)) (tSt is (tCons (tn (W i)) ta)))) (hn : MN X W K mg M c nw tn mn) (ha : SndA K M ta ma) (ok : OkS M is) (hJ : ∀ H, M.J H → JJ H) (hks : is.map Prod.snd = ks := by rfl) :
    MZ X W K mg M ce (fun V => tCallS (spS K JJ mg (ks ++ [c]) n fn) (WE V) (tSt is (tCons (tn V) ta))) (mCG is n fn mn ma) := ⟨hp, fun V H0 O0 O σ H env z Q s hm q => by
  obtain ⟨ss0, g0, hm⟩ := bind1 hm
  obtain ⟨ls0, a0, _⟩ := s.states ok.own g0
  refine tSt_run a0 ?_
  obtain ⟨z1, g1, g2⟩ := bind1 (show ((mn env).bind _) = some z from hm)
  refine hn.sd V H0 O0 O σ H env z1 _ s g1 ?_
  cases z1 with
  | xc c env' =>
    cases g2
    exact q
  | val d0 env1 =>
    intro l o H1 O1 s1 x1 m1 m2 far ho hod
    obtain ⟨ds, g3, g4⟩ := bind1 (show ((ma env1).bind _) = some z from g2)
    refine ha H0 O0 O1 σ H1 env1 ds s1 g3 _ fun us H2 e2 hus => ?_
    obtain ⟨hlen, g5⟩ := ite_some' g4
    obtain ⟨ss, g6, g7⟩ := bind1 g5
    obtain ⟨r, g8, g9⟩ := bind1 g7
    have s2 := s1.ex e2
    have x2 := x1.trans (cut_mono (O := O1) e2)
    obtain ⟨ls, a1, st⟩ := s2.states ok.own g6
    obtain rfl := at_same a0 a1
    have calm := s1.quiet l m1 m2
    have ho2 : H2 l = some o := e2.at ho (hod.nt calm)
    have hod2 := hod.ex (cut_mono (O := O1) e2)
    have mem := a1.mem
    have nl : l ∉ ls0 := fun z => by
      obtain ⟨_, _, p, hp, w1, d, w2⟩ := mem l z
      exact far p.1 d (ok.own p hp).1 w2 w1
    have nd : (ls0 ++ [l]).Nodup := List.nodup_append.mpr ⟨s2.nodup ok.own ok.nd a1, List.pairwise_singleton _ _, fun a ha b hb => by
      rw [List.mem_singleton.mp hb]
      exact fun z => nl (z ▸ ha)⟩
    have l1 : ls0.length = ks.length := by
      rw [← hks]
      exact st.lens.1
    refine ⟨ls0 ++ [l], us, ss ++ [d0], ds, r, O1, hJ _ (M.mono _ _ s2.ext s2.inv), ?_, by rw [dpAll_len hus]; exact hlen, nd, fun x hx => ?_, hks ▸ sta_app st ho2 hod2, s2.there, hus, g8, fun d ss' er v H3 e3 st3 hd => ?_, fun cn er C H3 hC e3 => ?_⟩
    · rw [List.map_append, List.append_assoc]
      rfl
    · obtain h | h := List.mem_append.mp hx
      · exact ⟨(mem x h).1, s2.quiet x (mem x h).1 (mem x h).2.1⟩
      · rw [List.mem_singleton.mp h]
        exact ⟨m1, calm⟩
    · subst er
      cases g9
      obtain ⟨sr, dl, o3, rfl, st4, ho3, _⟩ := sta_cut l1 st3
      obtain ⟨s3, x3⟩ := (s2.afterG ok a1 m1 m2 far (fun o' ho' => by
        obtain rfl := Option.some.inj (ho2.symm.trans ho')
        exact ⟨hod2.notb, hod2.noext⟩) e3).1 sr (hks ▸ st4) ⟨_, ho3⟩
      rw [List.dropLast_concat] at q
      exact q v H3 O1 s3 (x2.trans x3) hd
    · subst er
      cases g9
      obtain ⟨O3, s3, x3⟩ := (s2.afterG ok a1 m1 m2 far (fun o' ho' => by
        obtain rfl := Option.some.inj (ho2.symm.trans ho')
        exact ⟨hod2.notb, hod2.noext⟩) e3).2
      exact q C H3 O3 hC s3 (x2.trans x3)⟩
end
section
variable {P : Program} {w : World} {K : PySem.W.Frag} {mg : Str → Option Value} {base : Heap} {N : List Str}
def runN (n : Nat) (m1 : En → Option Fy) (m2 : En → Option (Zx PyData)) : List PyData → Option (PyData ⊕ Str) := fun ds => (m1 (ds.map some ++ List.replicate (n - ds.length) none)).bind fun f => match f with
  | .nx env => (m2 env).bind fun z => match z with
    | .val d _ => some (.inl d)
    | .xc c _ => some (.inr c)
  | .rt _ _ => none
  | .xc c _ => some (.inr c)
/-- a def of two statements, the last one gives a new instance -/
theorem fn_N {x qual : Str} {st s1 : Stmt} {ce : Expr} {pos : Pos} {f : Addr} {fd : FuncData} {ps : List Str} {j c : Nat} {M : MM} {t1 : WX → TS} {m1 : En → Option Fy} {t2 : WX → TE} {m2 : En → Option (Zx PyData)} (F : Fun K x qual st f fd) (S : FnScope N ps (defScope st)) (hb : defBody st = [s1, .Return (some ce) pos]) (hJ : ∀ H, JJ H → M.J H) (hM : ∀ i ∈ M, ps.length ≤ i)
    (h1 : MY (defX P w K mg base N qual (defScope st) f j) defW K mg M s1 t1 m1) (h2 : MN (defX P w K mg base N qual (defScope st) f j) defW K mg M c ce t2 m2) :
    FnOk P w K mg base (L2N.CX P w) (j + 1) f fd ps (spN K JJ mg c ps.length (runN N.length m1 m2)) := by
  refine okXN F S (fun vs H Q E hq => ?_) fun cdv A outer s H vs Q E hr hq => ?_
  · obtain ⟨ds, r, O, _, hl, _⟩ := hq
    exact hl
  · obtain ⟨ds, r, O, hJ1, hl, ht, hv, hf, q1, q2⟩ := hq
    rw [hb]
    refine ⟨_, pss_cons (h1.ps ⟨⟨cdv, A, outer, s, H, E⟩, hr⟩) (pss_one (ps_ret (h2.pe ⟨⟨cdv, A, outer, s, H, E⟩, hr⟩))), ?_⟩
    obtain ⟨fy, g1, g2⟩ := bind1 hf
    refine h1.sd (fun cls d _ H => E cls d H) H O O _ H _ fy _ (start_sl (n := N.length) (hJ _ hJ1) ht hv (by rw [hl]; exact hM)) g1 ?_
    cases fy with
    | rt d env => cases g2
    | xc c env =>
      cases g2
      exact fun C σ' H' O' hC s' _ => q2 _ rfl C H' hC s'.ext
    | nx env =>
      intro σ' H' O' s' x'
      obtain ⟨z, g3, g4⟩ := bind1 g2
      refine h2.sd _ H O O' σ' H' env z _ s' g3 ?_
      cases z with
      | xc c env2 =>
        cases g4
        exact fun C H2 O2 hC s2 _ => q2 _ rfl C H2 hC s2.ext
      | val d env2 =>
        cases g4
        intro l o H2 O2 s2 x2 m1 m2 far ho hod
        have no : H l = none := (s2.fresh l m1).resolve_left m2
        exact q1 _ rfl l o H2 s2.ext no ho (hod.ex (cut_less fun a ha => by
          obtain rfl | ha := List.mem_cons.mp ha
          · exact m1
          · exact s2.sub a ha))
end
end Rv
namespace Rv
open PySem L2 PySem.Spec PyProof.Rows
variable [Lz]
def ghP (as : List Addr) : Nat → Nat → List (Nat × Rel)
  | _, 0 => []
  | i, n + 1 => (i, fun _ v _ => v = .ref (as.getD i 0)) :: ghP as (i + 1) n
theorem ghP_get {as : List Addr} {l : Addr} : ∀ {n s i : Nat}, i < n → as[s + i]? = some l → (ghP as s n).lookup (s + i) = some fun _ v _ => v = .ref l
  | n + 1, s, 0, _, h => by
    show List.lookup (s + 0) ((s, _) :: ghP as (s + 1) n) = _
    rw [List.lookup_cons, Nat.add_zero, beq_self_eq_true]
    have e : as.getD s 0 = l := by
      (rw [List.getD_eq_getElem?_getD])
      rw [Nat.add_zero] at h
      rw [h]
      rfl
    rw [e]
  | n + 1, s, i + 1, hi, h => by
    show List.lookup (s + (i + 1)) ((s, _) :: ghP as (s + 1) n) = _
    rw [List.lookup_cons, beq_eq_false_iff_ne.mpr (show s + (i + 1) ≠ s by omega)]
    have := ghP_get (as := as) (s := s + 1) (i := i) (n := n) (l := l) (by omega) (by rw [show s + 1 + i = s + (i + 1) by omega]; exact h)
    rw [show s + (i + 1) = s + 1 + i by omega]
    exact this
theorem ghP_mem {as : List Addr} : ∀ {n s i : Nat} {R : Rel}, (ghP as s n).lookup i = some R → s ≤ i ∧ i < s + n ∧ ∃ l, R = fun _ v _ => v = .ref l
  | 0, _, _, _, h => by cases h
  | n + 1, s, i, R, h => by
    have h : List.lookup i ((s, (fun _ v _ => v = L2.V.ref (as.getD s 0) : Rel)) :: ghP as (s + 1) n) = some R := h
    rw [List.lookup_cons] at h
    split at h
    · rename_i e
      have e := eq_of_beq e
      cases h
      exact ⟨by omega, by omega, _, rfl⟩
    · obtain ⟨h1, h2, h3⟩ := ghP_mem h
      exact ⟨by omega, by omega, h3⟩
/-- own slots ls; the first slots hold the addresses as -/
def mP (ls : List Nat) (m : Nat) (h : ((List.range m).all fun i => decide (4 ≤ dictSL ls i)) = true) (as : List Addr) : MM := ⟨ls, JJ, fun _ _ e => JJ.mono e, fun _ h => h.1, ghP as 0 m, (fun i R g => by
  obtain ⟨_, _, l, rfl⟩ := ghP_mem g
  exact fun _ _ _ _ _ z => z), (fun i _ R g => by
  obtain ⟨_, h2, l, rfl⟩ := ghP_mem g
  exact ⟨⟨l, rfl⟩, of_decide_eq_true (List.all_eq_true.mp h i (List.mem_range.mpr (by omega)))⟩)⟩
theorem frS {ls ks : List Nat} {n m : Nat} {h : ((List.range m).all fun i => decide (4 ≤ dictSL ls i)) = true} (hm : m = ks.length) (hh : ((List.range m).all fun i => decide (4 ≤ dictSL ls i)) = true) (h2 : ((List.range ks.length).all fun i => ls.contains i && decide (dictSL ls i = ks.getD i 0 + 4)) = true) (h3 : (ls.all fun i => decide (i < ks.length) || decide (ks.length + n ≤ i)) = true) : FrS (mP ls m h) ks n where
  J := fun _ _ j => j
  own := fun as i c hc => by
    have hi := (List.getElem?_eq_some_iff.mp hc).1
    have z := List.all_eq_true.mp h2 i (List.mem_range.mpr hi)
    rw [Bool.and_eq_true] at z
    have e := of_decide_eq_true z.2
    rw [List.getD_eq_getElem?_getD, hc] at e
    exact ⟨List.contains_iff_mem.mp z.1, e⟩
  pin := fun as i l hl hg => by
    have hi := (List.getElem?_eq_some_iff.mp hg).1
    have := ghP_get (n := m) (s := 0) (i := i) (as := as) (l := l) (by omega) (by rw [Nat.zero_add]; exact hg)
    rw [Nat.zero_add] at this
    exact this
  low := fun as i hl hi lt => by
    rcases hi with hi | hi
    · have z := List.all_eq_true.mp h3 i hi
      rw [Bool.or_eq_true] at z
      exact z.elim (fun w => absurd (of_decide_eq_true w) (by omega)) of_decide_eq_true
    · obtain ⟨R, e⟩ := Option.isSome_iff_exists.mp hi
      obtain ⟨_, h2, _⟩ := ghP_mem (as := as) (n := m) (s := 0) e
      omega
/-- the slots is, checked -/
theorem okS {M : MM} {is : Ss} (h : (is.all fun p => M.ls.contains p.1 && decide (dictS M p.1 = p.2 + 4)) = true) (nd : (is.map Prod.fst).Nodup) : OkS M is := ⟨fun p hp => by
  have z := List.all_eq_true.mp h p hp
  rw [Bool.and_eq_true] at z
  exact ⟨List.contains_iff_mem.mp z.1, of_decide_eq_true z.2⟩, nd⟩
section
variable {P : Program} {w : World} {K : PySem.W.Frag} {mg : Str → Option Value} {base : Heap} {N : List Str}
theorem fn_noneS {x qual : Str} {st : Stmt} {f : Addr} {fd : FuncData} {ps : List Str} {j n : Nat} {ks : List Nat} {fm : List PyData → List PyData → Option ((PyData × List PyData) ⊕ Str)} (F : Fun K x qual st f fd) (S : FnScope N ps (defScope st)) (hps : ps.length = ks.length + n) (h : ∀ ss ds, fm ss ds = none) :
    FnOk P w K mg base (L2N.CX P w) (j + 1) f fd ps (spS K JJ mg ks n fm) := by
  refine okXN F S (fun vs H Q E hq => ?_) fun cdv A outer s H vs Q E hr hq => ?_
  · obtain ⟨ls, us, ss, ds, r, O, _, rfl, hl, _, _, sa, _⟩ := hq
    rw [List.length_append, List.length_map, sa.lens.1, hl, hps]
  · obtain ⟨ls, us, ss, ds, r, O, _, _, _, _, _, _, _, _, hf, _⟩ := hq
    rw [h] at hf
    cases hf
/-- a def of data whose body has own instances and may raise -/
def runY (n : Nat) (m : En → Option Fy) : List PyData → Option (PyData ⊕ Str) := fun ds => (m (ds.map some ++ List.replicate (n - ds.length) none)).bind fun f => match f with
  | .nx _ => some (.inl .none)
  | .rt d _ => some (.inl d)
  | .xc c _ => some (.inr c)
theorem fn_dataY {x qual : Str} {st : Stmt} {f : Addr} {fd : FuncData} {ps : List Str} {j : Nat} {M : MM} {t : WX → TS} {m : En → Option Fy} (F : Fun K x qual st f fd) (S : FnScope N ps (defScope st)) (hM : ∀ i ∈ M, ps.length ≤ i) (h : MYs (defX P w K mg base N qual (defScope st) f j) defW K mg M (defBody st) t m) :
    FnOk P w K mg base (L2N.CX P w) (j + 1) f fd ps (spX K M.J mg ps.length (runY N.length m)) := by
  refine okXN F S (fun vs H Q E hq => ?_) fun cdv A outer s H vs Q E hr hq => ?_
  · obtain ⟨ds, r, O, _, hl, _⟩ := hq
    exact hl
  · obtain ⟨ds, r, O, hJ, hl, ht, hv, hf, q1, q2⟩ := hq
    refine ⟨t fun cls d _ H => E cls d H, h.ps ⟨⟨cdv, A, outer, s, H, E⟩, hr⟩, ?_⟩
    obtain ⟨fy, g1, g2⟩ := bind1 hf
    refine h.sd _ H O O _ H _ fy _ (start_sl (n := N.length) hJ ht hv (by rw [hl]; exact hM)) g1 ?_
    cases fy with
    | nx env =>
      cases g2
      exact fun σ' H' O' s' _ => q1 _ rfl _ H' s'.ext .non
    | rt d env =>
      cases g2
      exact fun v σ' H' O' s' hd => q1 _ rfl v H' s'.ext (dp_ex (cut_less fun a ha => s'.sub a ha) hd)
    | xc c env =>
      cases g2
      exact fun C σ' H' O' hC s' _ => q2 _ rfl C H' hC s'.ext
end
section
variable {ι : Type} {X : ι → Cx} {W : ι → WX} {K : PySem.W.Frag} {mg : Str → Option Value} {N : List Str} {k : Nat} {M : MM} {a b e : Expr} {ta tb te : TE} {ma mb me : En → Option PyData} {pos : Pos}
def mAugF (i : Nat) (f : Str) (me : En → Option PyData) : En → Option Fl := fun env => (mVar i env).bind fun s => match s with
  | .dict es => (fldD f es).bind fun d0 => (me env).bind fun d => match d0, d with
    | .int x, .int y => if es.length < 900 then some (.nx (env.set i (some (.dict (putFD f (.int (x + y)) es))))) else none
    | _, _ => none
  | _ => none
theorem s_augF (F : Fam X K N k) (i c : Nat) (f : Str) {x : Str} {p1 p2 : Pos} (h : MD X K M e te me) (hC : Cls K (Lz.kc c)) (hA : NoAttr K (Lz.kc c) f) (hk : Lz.fk c f = .data) (hi : i ∈ M.ls := by first | decide | exact mmIn rfl) (hd : dictS M i = c + 4 := by first | decide | rfl) (hp : ∀ j, PE (X j) (.Name x p1) (tVar i) := by exact fun _ => pv _) :
    MS X K M (.AugAssign (.Attribute (.Name x p1) f p2) .Add e pos) (sFldAug K (tVar i) te rAdd f) (mAugF i f me) :=
  ⟨fun j => by
    have z := ps_fldaug (f := f) (tpos := p2) (pos := pos) (hp j) (h.pe j) in_add
    rw [F.hK j] at z
    exact z, fun H0 O0 O σ H env fl D s hm q => by
    obtain ⟨st, g3, g4⟩ := bind1 hm
    obtain ⟨l, dx, fs, es, h1, h2, h3, rfl, h5, h6, h7⟩ := s.ins (join_some g3) hi hd
    obtain ⟨d0, g5, g6⟩ := bind1 (show ((fldD f es).bind _) = some fl from g4)
    obtain ⟨d, g7, g8⟩ := bind1 g6
    obtain ⟨v, w1, w2⟩ := (kvf_look h6).2 d0 g5
    rw [hk] at w2
    refine ⟨_, h1, l, _, dx, fs, v, rfl, h5, hC, hA, w1, h.sd H0 O0 O σ H env d s g7 _ fun u H1 e1 hu => ?_⟩
    have s1 := s.ex e1
    cases d0 with
    | int x =>
      cases d with
      | int y =>
        cases w2
        cases hu
        obtain ⟨sz, eq⟩ := ite_some (show (if es.length < 900 then some (Fl.nx (env.set i (some (.dict (putFD f (.int (x + y)) es))))) else none) = some fl from g8)
        cases eq
        refine ⟨x, y, rfl, rfl, ?_⟩
        have at1 : H1 l = some (.ins (Lz.kc c) dx fs) := e1.at h5 (s.quiet l h2 h3)
        have fl_ := kvf_len h6
        refine ⟨dx, fs, at1, by omega, ?_⟩
        refine q σ _ O (s1.writeG hi (join_some g3) h1 h2 h3 ?_) ?_
        · rw [hd]
          refine ⟨dx, _, _, rfl, rfl, kvf_put ?_ (kvf_ex (cut_mono e1) h6), ?_⟩
          · rw [hk]
            exact .int _
          · have := length_putF f (.int (x + y)) fs
            omega
        · rw [cut_write h2]
          exact cut_mono e1
      | _ => cases g8
    | _ => cases g8⟩
def mSubF (i : Nat) (f : Str) (me : En → Option PyData) : En → Option Fl := fun env => (mVar i env).bind fun s => match s with
  | .dict es => (fldD f es).bind fun d0 => (me env).bind fun d => match d0, d with
    | .int x, .int y => if es.length < 900 then some (.nx (env.set i (some (.dict (putFD f (.int (x - y)) es))))) else none
    | _, _ => none
  | _ => none
theorem s_subF (F : Fam X K N k) (i c : Nat) (f : Str) {x : Str} {p1 p2 : Pos} (h : MD X K M e te me) (hC : Cls K (Lz.kc c)) (hA : NoAttr K (Lz.kc c) f) (hk : Lz.fk c f = .data) (hi : i ∈ M.ls := by first | decide | exact mmIn rfl) (hd : dictS M i = c + 4 := by first | decide | rfl) (hp : ∀ j, PE (X j) (.Name x p1) (tVar i) := by exact fun _ => pv _) :
    MS X K M (.AugAssign (.Attribute (.Name x p1) f p2) .Sub e pos) (sFldAug K (tVar i) te rSub f) (mSubF i f me) :=
  ⟨fun j => by
    have z := ps_fldaug (f := f) (tpos := p2) (pos := pos) (hp j) (h.pe j) in_sub
    rw [F.hK j] at z
    exact z, fun H0 O0 O σ H env fl D s hm q => by
    obtain ⟨st, g3, g4⟩ := bind1 hm
    obtain ⟨l, dx, fs, es, h1, h2, h3, rfl, h5, h6, h7⟩ := s.ins (join_some g3) hi hd
    obtain ⟨d0, g5, g6⟩ := bind1 (show ((fldD f es).bind _) = some fl from g4)
    obtain ⟨d, g7, g8⟩ := bind1 g6
    obtain ⟨v, w1, w2⟩ := (kvf_look h6).2 d0 g5
    rw [hk] at w2
    refine ⟨_, h1, l, _, dx, fs, v, rfl, h5, hC, hA, w1, h.sd H0 O0 O σ H env d s g7 _ fun u H1 e1 hu => ?_⟩
    have s1 := s.ex e1
    cases d0 with
    | int x =>
      cases d with
      | int y =>
        cases w2
        cases hu
        obtain ⟨sz, eq⟩ := ite_some (show (if es.length < 900 then some (Fl.nx (env.set i (some (.dict (putFD f (.int (x - y)) es))))) else none) = some fl from g8)
        cases eq
        refine ⟨x, y, rfl, rfl, ?_⟩
        have at1 : H1 l = some (.ins (Lz.kc c) dx fs) := e1.at h5 (s.quiet l h2 h3)
        have fl_ := kvf_len h6
        refine ⟨dx, fs, at1, by omega, ?_⟩
        refine q σ _ O (s1.writeG hi (join_some g3) h1 h2 h3 ?_) ?_
        · rw [hd]
          refine ⟨dx, _, _, rfl, rfl, kvf_put ?_ (kvf_ex (cut_mono e1) h6), ?_⟩
          · rw [hk]
            exact .int _
          · have := length_putF f (.int (x - y)) fs
            omega
        · rw [cut_write h2]
          exact cut_mono e1
      | _ => cases g8
    | _ => cases g8⟩
def bStr : List PyData → Option PyData
  | [.int i] => if i.natAbs.log2 < 1920 then some (.str (toString i)) else none
  | [.str x] => some (.str x)
  | _ => none
def rStrA : List L2.V → Hp → VK → Prop := fun xs H Q => (∃ i, xs = [.int i] ∧ i.natAbs.log2 < 1920 ∧ Q (.str (toString i)) H) ∨ ∃ x, xs = [.str x] ∧ Q (.str x) H
theorem cr_str {Y : Cx} : CallR Y (.type "str") rStrA := fun pins s σ H xs us Q I r h => by
  rcases h with h | h
  · exact call_str_int pins s σ H xs us Q I r h
  · exact SkE.call_str_str pins s σ H xs us Q I r h
theorem crd_str : CrD K rStrA bStr := fun H O vs ds d ht h hf Q q => by
  match ds, hf with
  | [.int i], hf =>
    obtain ⟨hz, e⟩ := ite_some (show (if i.natAbs.log2 < 1920 then some (PyData.str (toString i)) else none) = some d from hf)
    subst e
    cases h with
    | cons h1 h2 =>
      cases h2
      cases h1.dp
      exact .inl ⟨i, rfl, hz, q _ H (ExT.refl H) (.str _)⟩
  | [.str x], hf =>
    cases hf
    cases h with
    | cons h1 h2 =>
      cases h2
      cases h1.dp
      exact .inr ⟨x, rfl, q _ H (ExT.refl H) (.str _)⟩
def bIntS : List PyData → Option PyData
  | [.str x] => if x.length ≤ 640 then (PySem.intText? x).map .int else none
  | _ => none
def rIntS : List L2.V → Hp → VK → Prop := fun xs H Q => ∃ a n, xs = [.str a] ∧ PySem.intText? a = some n ∧ a.length ≤ 640 ∧ Q (.int n) H
theorem cr_intS {Y : Cx} : CallR Y (.type "int") rIntS := call_int_str
theorem crd_intS : CrD K rIntS bIntS := fun H O vs ds d ht h hf Q q => by
  match ds, hf with
  | [.str x], hf =>
    obtain ⟨hz, g⟩ := ite_some' (show (if x.length ≤ 640 then (PySem.intText? x).map PyData.int else none) = some d from hf)
    obtain ⟨n, g1, rfl⟩ := Option.map_eq_some_iff.mp g
    cases h with
    | cons h1 h2 =>
      cases h2
      cases h1.dp
      exact ⟨x, n, rfl, g1, hz, q _ H (ExT.refl H) (.int _)⟩
end
end Rv
namespace Rv
open PySem L2 PySem.Spec PyProof.Rows
variable [Lz]
def mPickOr (m : En → Option (List (Str × PyData))) (mb mc : En → Option PyData) : En → Option PyData := fun env => (m env).bind fun r => (mb env).bind fun a => (mc env).bind fun c => if r.length ≤ 15 then (unKey a).bind fun key => some ((valK (mergeD r) key).getD c) else none
section
variable {ι : Type} {X : ι → Cx} {K : PySem.W.Frag} {N : List Str} {k : Nat} {M : MM} {a b c e tg : Expr} {ta tb tc te : TE} {ma mb mc me : En → Option PyData} {pos apos : Pos}
/-- {..}.get(x, y) -/
theorem d_pickOr (F : Fam X K N k) {p1 : Pos} {ke : Expr} {ks : List (Option Expr)} {vs : List Expr} {trs : List (TE × TE)} {m : En → Option (List (Str × PyData))} (h : MP X K M p1 (some ke :: ks) vs trs m) (hb : MD X K M b tb mb) (hc : MD X K M c tc mc) (hall : (some ke :: ks).all (·.isSome) = true := by rfl) (hlen : (some ke :: ks).length = vs.length := by rfl) (h15 : (some ke :: ks).length ≤ 15 := by decide) (hm : ∀ i, M2 (X i) (.Dict (some ke :: ks) vs p1) "get" apos b c pos := by exact fun _ => ⟨rfl, rfl, rfl, rfl⟩) :
    MD X K M (.Call (.Attribute (.Dict (some ke :: ks) vs p1) "get" apos) [b, c] [] pos) (tDGet2 (tDisp trs) tb tc) (mPickOr m mb mc) :=
  ⟨fun j => pe_dget2 (by have := F.u64 j; omega) (pe_disp (h.pp j) hall hlen (fun z => nomatch z) h15) (hb.pe j) (hc.pe j) (hm j), fun H0 O0 O σ H env d s hm Q q => by
    obtain ⟨r, g1, hm⟩ := bind1 hm
    obtain ⟨a, g2, hm⟩ := bind1 hm
    obtain ⟨a2, g3, hm⟩ := bind1 hm
    obtain ⟨small, hm⟩ := ite_some' (show (if r.length ≤ 15 then (unKey a).bind fun key => some ((valK (mergeD r) key).getD a2) else none) = some d from hm)
    obtain ⟨key, g4, g5⟩ := bind1 hm
    intro p hp
    refine h.sd H0 O0 (p :: O) σ _ env r (s.more (o := .dK []) hp) g1 _ fun ps H2 e2 hps => ?_
    obtain ⟨kvs, e1, e3, e4⟩ := kvk_merge hps
    have calm : Lz.z p = none := s.calm hp
    refine ⟨e2.at upd_same calm, kvs, e1, by rw [e3]; exact small, ?_⟩
    have hx2 : ExT H (upd H2 p (.dK (mergeK [] kvs))) := ((ExT.new hp).trans e2).wroteG hp (e2.at upd_same calm) (fun ps z => by cases z) fun φ z => by cases z
    have cw : cut (upd H2 p (.dK (mergeK [] kvs))) (p :: O) = cut H2 (p :: O) := cut_write List.mem_cons_self
    have at2 : (upd H2 p (.dK (mergeK [] kvs))) p = some (.dK (mergeK [] kvs)) := upd_same
    refine ⟨p, rfl, .inl ⟨_, .inl at2⟩, ?_⟩
    refine hb.sd H0 O0 O σ _ env a (s.ex hx2) g2 _ fun v H3 e5 hv => ?_
    refine hc.sd H0 O0 O σ _ env a2 ((s.ex hx2).ex e5) g3 _ fun v2 H4 e6 hv2 => ?_
    have := dp_key hv g4
    subst this
    have get := DGet.k (H := H4) (k := key) (e6.at (e5.at at2 calm) calm)
    refine ⟨_, get, ?_⟩
    have up : Ex (cut H2 (p :: O)) (cut H4 O) := by
      rw [← cw]
      exact (cut_less fun x hx => List.mem_cons_of_mem p hx).trans (cut_mono (e5.trans e6))
    cases g5
    cases hz : valK (mergeD r) key with
    | none =>
      rw [hz] at q
      have z := (kvk_val (key := key) (e4 [] [] .nil)).1 hz
      rw [z]
      exact q v2 H4 (hx2.trans (e5.trans e6)) hv2
    | some x =>
      rw [hz] at q
      obtain ⟨v, v1, v2⟩ := (kvk_val (key := key) (e4 [] [] .nil)).2 x hz
      rw [v1]
      exact q v H4 (hx2.trans (e5.trans e6)) (dp_ex up v2)⟩
end
end Rv
namespace Rv
open PySem L2 PySem.Spec PyProof.Rows
variable [Lz]
theorem snd_nilZ {K : PySem.W.Frag} {M : MM} {mg : Str → Option Value} : SndZA K M mg (fun _ => tNil) mNilZ := fun V H0 O0 O σ H env z Q s hm q => by
  cases hm
  exact q [] H O s erefl .nil
theorem snd_nilA {K : PySem.W.Frag} {M : MM} : SndA K M tNil mNil := fun H0 O0 O σ H env ds s hm Q q => by
  cases hm
  exact q [] H (ExT.refl H) .nil
def joinD (x : Str) (ds : List PyData) : Option PyData := (strsOf ds).bind fun ys => if (ys.map (·.length)).sum + ys.length * x.length ≤ 16777216 then some (.str (Txt.join x ys)) else none
def mJoin (ma mb : En → Option PyData) : En → Option PyData := fun env => (ma env).bind fun a => (mb env).bind fun b => match a, b with
  | .str x, .tuple ds => joinD x ds
  | .str x, .list ds => joinD x ds
  | _, _ => none
section
variable {ι : Type} {X : ι → Cx} {K : PySem.W.Frag} {N : List Str} {k : Nat} {M : MM} {a b : Expr} {ta tb : TE} {ma mb : En → Option PyData} {pos p1 : Pos}
theorem d_join (F : Fam X K N k) (ha : MD X K M a ta ma) (hb : MD X K M b tb mb) (hs : ∀ i, starEach [b] (X i).env = [(false, eval b (X i).env)] := by exact fun _ => rfl) (hbase : ∀ i, attributeBase a "join" (X i).env (eval a (X i).env) = eval a (X i).env := by exact fun _ => rfl) (hline : (p1.endLine == pos.line) = true := by rfl) :
    MD X K M (.Call (.Attribute a "join" p1) [b] [] pos) (tM1 (fun x xs H Q => ∃ a p, ∃ ys : List Str, x = .str a ∧ xs = [.ref p] ∧ (SqL K H p (ys.map V.str) ∨ SqT K H p (ys.map V.str)) ∧
      (ys.map (·.length)).sum + ys.length * a.length ≤ 16777216 ∧ Q (.str (Txt.join a ys)) H) ta tb) (mJoin ma mb) := ⟨fun i => by
    have z := pe_join (apos := p1) (pos := pos) (ha.pe i) (hb.pe i) (hs i) (hbase i) hline
    rw [F.hK i] at z
    exact z, fun H0 O0 O σ H env d s hm Q q => by
  obtain ⟨x, h1, hm⟩ := bind1 hm
  obtain ⟨y, h2, h3⟩ := bind1 hm
  refine ha.sd H0 O0 O σ H env x s h1 _ fun v H1 e1 hv => ?_
  cases x with
  | str x =>
    have ev : v = .str x := by
      cases hv
      rfl
    subst ev
    refine ⟨⟨_, rfl⟩, hb.sd H0 O0 O σ H1 env y (s.ex e1) h2 _ fun w H2 e2 hw => ?_⟩
    cases y with
    | tuple ds =>
      obtain ⟨ys, g1, g2⟩ := bind1 (show ((strsOf ds).bind _) = some d from h3)
      obtain ⟨hz, e⟩ := ite_some (show (if (ys.map (·.length)).sum + ys.length * x.length ≤ 16777216 then some (PyData.str (Txt.join x ys)) else none) = some d from g2)
      subst e
      obtain rfl := strsOf_some g1
      obtain ⟨p, xs, rfl, w1, w2, _⟩ := (show Dq K H2 O w (.tuple _) from .inl hw).tuple
      obtain rfl := dpAll_strs w2
      exact ⟨x, p, ys, rfl, rfl, .inr w1, hz, q _ H2 (e1.trans e2) (.str _)⟩
    | list ds =>
      obtain ⟨ys, g1, g2⟩ := bind1 (show ((strsOf ds).bind _) = some d from h3)
      obtain ⟨hz, e⟩ := ite_some (show (if (ys.map (·.length)).sum + ys.length * x.length ≤ 16777216 then some (PyData.str (Txt.join x ys)) else none) = some d from g2)
      subst e
      obtain rfl := strsOf_some g1
      obtain ⟨p, xs, rfl, w1, w2⟩ := (show Dq K H2 O w (.list _) from .inl hw).list
      obtain rfl := dpAll_strs w2
      exact ⟨x, p, ys, rfl, rfl, .inl w1, hz, q _ H2 (e1.trans e2) (.str _)⟩
    | _ => cases h3
  | _ => cases h3⟩
end
section
variable {ι : Type} {X : ι → Cx} {W : ι → WX} {K : PySem.W.Frag} {mg : Str → Option Value} {M : MM} {pos : Pos}
theorem z_dataA {j : Nat} {f : Addr} {fd : FuncData} {ps : List Str} {x : Str} {p : Pos} {e : Expr} {es : List Expr} {n : Nat} {fn : List PyData → Option PyData} {t : WX → TA} {mr : En → Option (Zx (List PyData))} (G : ∀ i, FnOk (X i).prog (X i).w (X i).K (X i).mg (X i).base CX0 j f fd ps (spD K M.J n fn)) (hr : ∀ i, Room j (X i).A) (hm : ∀ i, (X i).mg x = some (.ref f)) (hk : ∀ i, PySem.W.keepIn (X i).K (.ref f) = true) (hb : ∀ i, Binds (X i).K fd ps []) (h : MZA X W K mg M (e :: es) t mr)
    (hg : ∀ i, Gl (X i) x := by exact fun _ => rfl) (hdb : (x == ("__debug__" : Str)) = false := by decide) (he : ∀ i, starEach (e :: es) (X i).env = (false, eval e (X i).env) :: starEach es (X i).env := by exact fun _ => rfl) (hpl : ∀ i, (backTo pos (starEach es (X i).env)).any (·.1) = false := by exact fun _ => rfl) :
    MZ X W K mg M (.Call (.Name x p) (e :: es) [] pos) (fun V => tCall (spD K M.J n fn) [] E0 (t V)) (mDataZ n fn mr) := z_data (fun i => pe_call (G i) (hr i) (hg i) (hm i) (hk i) (hb i) .nil pass0 (h.pa i) hdb (he i) (hpl i)) h.sd
theorem z_methA {i c n k : Nat} {m : Str} {f : Addr} {fd : FuncData} {ps : List Str} {e : Expr} {es : List Expr} {x : Str} {p1 p2 : Pos} {pl : ι → Sem Bool} {fn : List PyData → List PyData → Option ((PyData × List PyData) ⊕ Str)} {t : WX → TA} {mr : En → Option (Zx (List PyData))} (hC : ∀ j, Cls (X j).K (Lz.kc c)) (hm : ∀ j, Meth (X j).K (Lz.kc c) m f) (G : ∀ j, FnOk (X j).prog (X j).w (X j).K (X j).mg (X j).base (L2N.CX (X j).prog (X j).w) k f fd ps (spS K JJ mg [c] n fn)) (hr : ∀ j, Room k (X j).A) (hb : ∀ j, Binds (X j).K fd ps []) (tk : ∀ j, L2N.Takes (X j) (W j)) (h : MZA X W K mg M (e :: es) t mr) (ok : OkS M [(i, c)]) (hJ : ∀ H, M.J H → JJ H)
    (hv : ∀ j, PE (X j) (.Name x p1) (tVar i) := by exact fun _ => pv _) (hst : ∀ j, starEach (e :: es) (X j).env = (false, eval e (X j).env) :: starEach es (X j).env := by exact fun _ => rfl) (hpl : ∀ j, (backTo pos (starEach es (X j).env)).any (·.1) = false := by exact fun _ => rfl)
    (ht : ∀ j, eval (.Call (.Attribute (.Name x p1) m p2) (e :: es) [] pos) (X j).env = (do let ov ← eval (.Name x p1) (X j).env; standAt p2.atName; let (f, first) ← holding [ov] (getMethod ov m (pl j)); callWith pos f first (backTo pos (starEach (e :: es) (X j).env)) (backToKw pos (keywordEach [] (X j).env))) := by exact fun _ => rfl) :
    MZ X W K mg M (.Call (.Attribute (.Name x p1) m p2) (e :: es) [] pos) (fun V => tMethE (Lz.kc c) m (spS K JJ mg [c] n fn) (WE V) (tVar i) (t V)) (mMeth m i c n fn mr) :=
  z_meth (fun j => pe_methE (hv j) (hC j) (hm j) (G j) (hr j) (hb j) (fun σ => L2N.passAt (tk j) σ) (h.pa j) (hst j) (hpl j) (ht j)) h.sd ok hJ
theorem n_makeA {c n k : Nat} {f : Addr} {fd : FuncData} {ps : List Str} {e : Expr} {es : List Expr} {x : Str} {p : Pos} {fn : List PyData → List PyData → Option ((PyData × List PyData) ⊕ Str)} {t : WX → TA} {mr : En → Option (Zx (List PyData))} (hM : ∀ j, Mk (X j).K (Lz.kc c) f) (G : ∀ j, FnOk (X j).prog (X j).w (X j).K (X j).mg (X j).base (L2N.CX (X j).prog (X j).w) k f fd ps (spS K JJ mg [c] n fn)) (hr : ∀ j, Room (k + 1) (X j).A) (hm : ∀ j, (X j).mg x = some (.ref (Lz.kc c))) (hb : ∀ j, Binds (X j).K fd ps []) (h : MZA X W K mg M (e :: es) t mr) (hJ : ∀ H, M.J H → JJ H)
    (hg : ∀ i, Gl (X i) x := by exact fun _ => rfl) (hdb : (x == ("__debug__" : Str)) = false := by decide) (he : ∀ i, starEach (e :: es) (X i).env = (false, eval e (X i).env) :: starEach es (X i).env := by exact fun _ => rfl) (hpl : ∀ i, (backTo pos (starEach es (X i).env)).any (·.1) = false := by exact fun _ => rfl) :
    MN X W K mg M c (.Call (.Name x p) (e :: es) [] pos) (fun V => tMake (Lz.kc c) (spS K JJ mg [c] n fn) [] E0 (t V)) (mMake n fn mr) :=
  n_make (fun j => pe_make (hM j) (G j) (hr j) (hg j) (hm j) (hb j) .nil passN (h.pa j) hdb (he j) (hpl j)) h.sd hJ
theorem n_callA {c n k : Nat} {f : Addr} {fd : FuncData} {ps : List Str} {e : Expr} {es : List Expr} {x : Str} {p : Pos} {fn : List PyData → Option (PyData ⊕ Str)} {t : WX → TA} {mr : En → Option (Zx (List PyData))} (G : ∀ j, FnOk (X j).prog (X j).w (X j).K (X j).mg (X j).base (L2N.CX (X j).prog (X j).w) k f fd ps (spN K JJ mg c n fn)) (hr : ∀ j, Room k (X j).A) (hm : ∀ j, (X j).mg x = some (.ref f)) (hk : ∀ j, PySem.W.keepIn (X j).K (.ref f) = true) (hb : ∀ j, Binds (X j).K fd ps []) (tk : ∀ j, L2N.Takes (X j) (W j)) (h : MZA X W K mg M (e :: es) t mr) (hJ : ∀ H, M.J H → JJ H)
    (hg : ∀ i, Gl (X i) x := by exact fun _ => rfl) (hdb : (x == ("__debug__" : Str)) = false := by decide) (he : ∀ i, starEach (e :: es) (X i).env = (false, eval e (X i).env) :: starEach es (X i).env := by exact fun _ => rfl) (hpl : ∀ i, (backTo pos (starEach es (X i).env)).any (·.1) = false := by exact fun _ => rfl) :
    MN X W K mg M c (.Call (.Name x p) (e :: es) [] pos) (fun V => tCallS (spN K JJ mg c n fn) (WE V) (t V)) (mNew n fn mr) :=
  n_call (fun j => pe_callS (G j) (hr j) (hg j) (hm j) (hk j) (hb j) (fun σ => L2N.passAt (tk j) σ) (h.pa j) hdb (he j) (hpl j)) h.sd hJ
/-- f(x, C(..)), x an own instance -/
theorem z_callG1 {i c0 c k : Nat} {f : Addr} {fd : FuncData} {ps : List Str} {x y : Str} {p p1 : Pos} {nw : Expr} {fn : List PyData → List PyData → Option ((PyData × List PyData) ⊕ Str)} {tn : WX → TE} {mn : En → Option (Zx PyData)} (G : ∀ j, FnOk (X j).prog (X j).w (X j).K (X j).mg (X j).base (L2N.CX (X j).prog (X j).w) k f fd ps (spS K JJ mg [c0, c] 0 fn)) (hr : ∀ j, Room k (X j).A) (hm : ∀ j, (X j).mg x = some (.ref f)) (hk : ∀ j, PySem.W.keepIn (X j).K (.ref f) = true) (hb : ∀ j, Binds (X j).K fd ps []) (tk : ∀ j, L2N.Takes (X j) (W j)) (hn : MN X W K mg M c nw tn mn) (ok : OkS M [(i, c0)]) (hJ : ∀ H, M.J H → JJ H)
    (hv : ∀ j, PE (X j) (.Name y p1) (tVar i) := by exact fun _ => pv _) (hg : ∀ i, Gl (X i) x := by exact fun _ => rfl) (hdb : (x == ("__debug__" : Str)) = false := by decide) (he : ∀ i, starEach [.Name y p1, nw] (X i).env = (false, eval (.Name y p1) (X i).env) :: starEach [nw] (X i).env := by exact fun _ => rfl) (he2 : ∀ i, starEach [nw] (X i).env = (false, eval nw (X i).env) :: starEach [] (X i).env := by exact fun _ => rfl) (hpl : ∀ i, (backTo pos (starEach [nw] (X i).env)).any (·.1) = false := by exact fun _ => rfl) :
    MZ X W K mg M (.Call (.Name x p) [.Name y p1, nw] [] pos) (fun V => tCallS (spS K JJ mg [c0, c] 0 fn) (WE V) (tSt [(i, c0)] (tCons (tn V) tNil))) (mCG [(i, c0)] 0 fn mn mNil) :=
  z_callG (is := [(i, c0)]) (ks := [c0]) (c := c) (n := 0) (fn := fn) (ta := tNil) (ma := mNil) (fun j => pe_callS (G j) (hr j) (hg j) (hm j) (hk j) (hb j) (fun σ => L2N.passAt (tk j) σ) (pa_cons (hv j) (pa_cons (hn.pe j) pa_nil (he2 j)) (he j)) hdb (he j) (hpl j)) hn snd_nilA ok hJ
end
end Rv
namespace Rv
open PySem L2 PySem.Spec PyProof.Rows
variable [Lz]
def rMulT : R2 := fun x y H Q => ∃ z i, x = .str z ∧ y = .int i ∧ z.length ≤ 16 ∧ 0 ≤ i ∧ i ≤ 1048576 ∧ Q (.str (Txt.mul z i)) H
theorem op_mulT {X : Cx} : OpR X (binaryOp .Mult) rMulT := fun pins s σ H x y v u Q I rx ry h => by
  obtain ⟨z, i, rfl, rfl, hz, h0, h1, q⟩ := h
  obtain ⟨t, rfl⟩ := rx
  obtain ⟨t', rfl⟩ := ry
  exact PySem.W.KXi.mul rfl hz (by omega) (by omega) fun t' k _ _ => ⟨.str _, H, I.tok _, ⟨_, rfl⟩, q⟩
def dMulT : PyData → PyData → Option PyData
  | .str z, .int i => if z.length ≤ 16 ∧ 0 ≤ i ∧ i ≤ 1048576 then some (.str (Txt.mul z i)) else none
  | _, _ => none
theorem opd_mulT {K : PySem.W.Frag} : OpD K rMulT dMulT := fun H O x y d1 d2 d ht h1 h2 hf Q q => by
  cases d1 with
  | str z =>
    cases d2 with
    | int i =>
      obtain ⟨⟨a, b, c⟩, e⟩ := ite_some hf
      subst e
      exact ⟨z, i, h1.str, h2.int, a, b, c, q _ H (ExT.refl H) (.str _)⟩
    | _ => cases hf
  | _ => cases hf
section
variable {ι : Type} {X : ι → Cx} {W : ι → WX} {K : PySem.W.Frag} {mg : Str → Option Value} {N : List Str} {k : Nat} {M : MM} {c : Expr} {pos : Pos}
theorem snd_asgIf {tt : TT} {u1 u2 : WX → TE} {g : TG} {mt : En → Option Bool} {m1 m2 : En → Option Fx} (hc : MT X K M c tt mt) (h1 : SndX K M mg (fun V => tAsg (u1 V) g) m1) (h2 : SndX K M mg (fun V => tAsg (u2 V) g) m2) : SndX K M mg (fun V => tAsg (tIf tt (u1 V) (u2 V)) g) (mIfX mt m1 m2) := fun V H0 O0 O σ H env fx D s hm q => by
  obtain ⟨x, g1, g2⟩ := bind1 hm
  refine hc.sd H0 O0 O σ H env x s g1 _ fun H1 e1 => ?_
  cases x with
  | true =>
    rw [if_pos rfl] at g2 ⊢
    exact h1 V H0 O0 O σ H1 env fx D (s.ex e1) g2 (q.weaken (cut_mono e1))
  | false =>
    rw [if_neg Bool.false_ne_true] at g2 ⊢
    exact h2 V H0 O0 O σ H1 env fx D (s.ex e1) g2 (q.weaken (cut_mono e1))
/-- x = f(..) if c else g(..) -/
theorem x_asgIf {n1 n2 : Nat} {f1 f2 : List PyData → Option (PyData ⊕ Str)} {t1 t2 : TA} {ms1 ms2 : En → Option (List PyData)} {ce1 ce2 : Expr} {tt : TT} {mt : En → Option Bool} {pos2 : Pos} (F : Fam X K N k) (i : Nat) {x : Str} {pos' : Pos} (hc : MT X K M c tt mt)
    (hp1 : ∀ i, PE (X i) ce1 (tCallS (spX K M.J mg n1 f1) (WE (W i)) t1)) (a1 : SndA K M t1 ms1) (l1 : ∀ env ds, ms1 env = some ds → ds.length = n1) (hp2 : ∀ i, PE (X i) ce2 (tCallS (spX K M.J mg n2 f2) (WE (W i)) t2)) (a2 : SndA K M t2 ms2) (l2 : ∀ env ds, ms2 env = some ds → ds.length = n2)
    (hi : i ∉ M := by first | decide | exact mmOut rfl) (hx : N[i]? = some x := by rfl) (hlo : ∀ j, Loc (X j).env.scope x := by first | exact fun _ => Or.inl rfl | exact fun _ => Or.inr rfl)
    (hs : ∀ j, swapsWith (.IfExp c ce1 ce2 pos2) (some (.Name x pos')) pos.line (X j).env = pure false := by exact fun _ => rfl) (hf : ∀ j, (X j).fn x = true ∨ (X j).env.scope.names.lookup x = some .local := by first | exact fun _ => .inl rfl | exact fun _ => .inr rfl) :
    MX X W K mg M (.Assign [.Name x pos'] (.IfExp c ce1 ce2 pos2) pos) (fun V => tAsg (tIf tt (tCallS (spX K M.J mg n1 f1) (WE V) t1) (tCallS (spX K M.J mg n2 f2) (WE V) t2)) (gName i)) (mIfX mt (mCX f1 ms1 fun d env => some (.nx (env.set i (some d)))) (mCX f2 ms2 fun d env => some (.nx (env.set i (some d))))) :=
  ⟨fun j => ps_set (by rw [F.hN j]; exact F.nd) (by rw [F.hN j]; exact hx) (hlo j) (pe_ifExp (hc.pt j) (hp1 j) (hp2 j)) (hs j) (hf j),
    snd_asgIf hc (snd_callX (T := fun u => tAsg u (gName i)) a1 l1 (fun _ _ _ _ q => q) fun H0 O0 O σ H env d v fl D s hv hgo q => by
      cases hgo
      exact q _ H O (s.set hi hv) erefl) (snd_callX (T := fun u => tAsg u (gName i)) a2 l2 (fun _ _ _ _ q => q) fun H0 O0 O σ H env d v fl D s hv hgo q => by
      cases hgo
      exact q _ H O (s.set hi hv) erefl)⟩
end
end Rv
namespace Rv
open PySem L2 PySem.Spec PyProof.Rows
variable [Lz]
abbrev s_Reader___init : Stmt := clsS 38 0
abbrev s_Reader_ahead : Stmt := clsS 38 1
abbrev s_Reader_take : Stmt := clsS 38 2
abbrev s_Reader_takes : Stmt := clsS 38 3
abbrev s_Reader_take_this : Stmt := clsS 38 4
abbrev s_Reader_take_name : Stmt := clsS 38 5
abbrev s_Reader_take_number : Stmt := clsS 38 6
abbrev s_Reader_take_names : Stmt := clsS 38 7
abbrev s_Bounds___init : Stmt := clsS 39 0
abbrev s_Bounds_count_part : Stmt := clsS 39 1
abbrev s_Bounds_count_pair : Stmt := clsS 39 2
abbrev s_Bounds_enter_bracket : Stmt := clsS 39 3
abbrev s_Bounds_leave_bracket : Stmt := clsS 39 4
abbrev s_Bounds_enter_has : Stmt := clsS 39 5
abbrev s_Bounds_leave_has : Stmt := clsS 39 6
abbrev s_is_name : Stmt := topS 29
abbrev s_are_unlike : Stmt := topS 30
abbrev s_written_number : Stmt := topS 31
abbrev s_take_or : Stmt := topS 40
abbrev s_take_and : Stmt := topS 41
abbrev s_take_alone : Stmt := topS 42
abbrev s_take_bracket : Stmt := topS 43
abbrev s_take_has : Stmt := topS 44
abbrev s_take_about_column : Stmt := topS 45
abbrev s_take_condition : Stmt := topS 46
abbrev s_take_ask : Stmt := topS 47
abbrev s_take_first : Stmt := topS 48
abbrev s_take_step : Stmt := topS 49
abbrev s_reader_of : Stmt := topS 50
abbrev s_check_end : Stmt := topS 51
abbrev s_read_condition : Stmt := topS 52
abbrev s_read_ask : Stmt := topS 53
abbrev s_law_cell_at : Stmt := topS 55
abbrev s_law_draws : Stmt := topS 56
abbrev s_law_name : Stmt := topS 57
abbrev s_law_columns : Stmt := topS 58
abbrev s_law_ground : Stmt := topS 59
abbrev s_law_atom : Stmt := topS 60
abbrev s_law_condition : Stmt := topS 61
abbrev s_law_new_names : Stmt := topS 62
abbrev s_law_kin : Stmt := topS 63
abbrev s_law_some_columns : Stmt := topS 64
abbrev s_law_rank : Stmt := topS 65
abbrev s_law_put : Stmt := topS 66
abbrev s_law_words : Stmt := topS 67
abbrev s_law_wide : Stmt := topS 68
abbrev s_law_told : Stmt := topS 69
abbrev s_law : Stmt := topS 70
set_option maxHeartbeats 0 in
structure Txt (K : PySem.W.Frag) (mg : Str → Option Value) (wd : World) where
  n_len : mg "len" = none
  n_all : mg "all" = none
  n_isinstance : mg "isinstance" = none
  n_str : mg "str" = none
  n_set : mg "set" = none
  n_int : mg "int" = none
  n_range : mg "range" = none
  n_tuple : mg "tuple" = none
  n_min : mg "min" = none
  n_sorted : mg "sorted" = none
  n_any : mg "any" = none
  n_max : mg "max" = none
  n_ValueError : mg "ValueError" = none
  u_MOST_PAIRS : Value
  v_MOST_PAIRS : V
  mg_MOST_PAIRS : mg "MOST_PAIRS" = some u_MOST_PAIRS
  rl_MOST_PAIRS : RelV v_MOST_PAIRS u_MOST_PAIRS
  dp_MOST_PAIRS : ∀ H, Dp K H v_MOST_PAIRS c_MOST_PAIRS
  u_MOST_BRACKETS : Value
  v_MOST_BRACKETS : V
  mg_MOST_BRACKETS : mg "MOST_BRACKETS" = some u_MOST_BRACKETS
  rl_MOST_BRACKETS : RelV v_MOST_BRACKETS u_MOST_BRACKETS
  dp_MOST_BRACKETS : ∀ H, Dp K H v_MOST_BRACKETS c_MOST_BRACKETS
  u_LETTERS : Value
  v_LETTERS : V
  mg_LETTERS : mg "LETTERS" = some u_LETTERS
  rl_LETTERS : RelV v_LETTERS u_LETTERS
  dp_LETTERS : ∀ H, Dp K H v_LETTERS c_LETTERS
  u_WORDS : Value
  v_WORDS : V
  mg_WORDS : mg "WORDS" = some u_WORDS
  rl_WORDS : RelV v_WORDS u_WORDS
  dp_WORDS : ∀ H, Dp K H v_WORDS c_WORDS
  u_LONGEST_NAME : Value
  v_LONGEST_NAME : V
  mg_LONGEST_NAME : mg "LONGEST_NAME" = some u_LONGEST_NAME
  rl_LONGEST_NAME : RelV v_LONGEST_NAME u_LONGEST_NAME
  dp_LONGEST_NAME : ∀ H, Dp K H v_LONGEST_NAME c_LONGEST_NAME
  u_FIGURES : Value
  v_FIGURES : V
  mg_FIGURES : mg "FIGURES" = some u_FIGURES
  rl_FIGURES : RelV v_FIGURES u_FIGURES
  dp_FIGURES : ∀ H, Dp K H v_FIGURES c_FIGURES
  u_MOST_FIGURES : Value
  v_MOST_FIGURES : V
  mg_MOST_FIGURES : mg "MOST_FIGURES" = some u_MOST_FIGURES
  rl_MOST_FIGURES : RelV v_MOST_FIGURES u_MOST_FIGURES
  dp_MOST_FIGURES : ∀ H, Dp K H v_MOST_FIGURES c_MOST_FIGURES
  q_MOST_VALUES : Addr
  mg_MOST_VALUES : mg "MOST_VALUES" = some (.ref q_MOST_VALUES)
  kd_MOST_VALUES : KDt K wd q_MOST_VALUES tab_MOST_VALUES
  u_MOST_CONDITIONS : Value
  v_MOST_CONDITIONS : V
  mg_MOST_CONDITIONS : mg "MOST_CONDITIONS" = some u_MOST_CONDITIONS
  rl_MOST_CONDITIONS : RelV v_MOST_CONDITIONS u_MOST_CONDITIONS
  dp_MOST_CONDITIONS : ∀ H, Dp K H v_MOST_CONDITIONS c_MOST_CONDITIONS
  u_MOST_PARTS : Value
  v_MOST_PARTS : V
  mg_MOST_PARTS : mg "MOST_PARTS" = some u_MOST_PARTS
  rl_MOST_PARTS : RelV v_MOST_PARTS u_MOST_PARTS
  dp_MOST_PARTS : ∀ H, Dp K H v_MOST_PARTS c_MOST_PARTS
  fk_ : ∀ c f, Lz.fk c f = .data
  mg_Reader : mg "Reader" = some (.ref (Lz.kc 0))
  cl_Reader : Cls K (Lz.kc 0)
  na_Reader_words : NoAttr K (Lz.kc 0) "words"
  na_Reader_place : NoAttr K (Lz.kc 0) "place"
  mg_Bounds : mg "Bounds" = some (.ref (Lz.kc 1))
  cl_Bounds : Cls K (Lz.kc 1)
  na_Bounds_most : NoAttr K (Lz.kc 1) "most"
  na_Bounds_parts : NoAttr K (Lz.kc 1) "parts"
  na_Bounds_pairs : NoAttr K (Lz.kc 1) "pairs"
  na_Bounds_brackets : NoAttr K (Lz.kc 1) "brackets"
  na_Bounds_within_has : NoAttr K (Lz.kc 1) "within_has"
  f_Reader___init : Addr
  fd_Reader___init : FuncData
  F_Reader___init : Fun K "__init__" "Reader.__init__" s_Reader___init f_Reader___init fd_Reader___init
  b_Reader___init : Binds K fd_Reader___init ["self", "words"] []
  mk_Reader : Mk K (Lz.kc 0) f_Reader___init
  f_Reader_ahead : Addr
  fd_Reader_ahead : FuncData
  F_Reader_ahead : Fun K "ahead" "Reader.ahead" s_Reader_ahead f_Reader_ahead fd_Reader_ahead
  b_Reader_ahead : Binds K fd_Reader_ahead ["self"] []
  me_Reader_ahead : Meth K (Lz.kc 0) "ahead" f_Reader_ahead
  f_Reader_take : Addr
  fd_Reader_take : FuncData
  F_Reader_take : Fun K "take" "Reader.take" s_Reader_take f_Reader_take fd_Reader_take
  b_Reader_take : Binds K fd_Reader_take ["self"] []
  me_Reader_take : Meth K (Lz.kc 0) "take" f_Reader_take
  f_Reader_takes : Addr
  fd_Reader_takes : FuncData
  F_Reader_takes : Fun K "takes" "Reader.takes" s_Reader_takes f_Reader_takes fd_Reader_takes
  b_Reader_takes : Binds K fd_Reader_takes ["self", "word"] []
  me_Reader_takes : Meth K (Lz.kc 0) "takes" f_Reader_takes
  f_Reader_take_this : Addr
  fd_Reader_take_this : FuncData
  F_Reader_take_this : Fun K "take_this" "Reader.take_this" s_Reader_take_this f_Reader_take_this fd_Reader_take_this
  b_Reader_take_this : Binds K fd_Reader_take_this ["self", "word"] []
  me_Reader_take_this : Meth K (Lz.kc 0) "take_this" f_Reader_take_this
  f_Reader_take_name : Addr
  fd_Reader_take_name : FuncData
  F_Reader_take_name : Fun K "take_name" "Reader.take_name" s_Reader_take_name f_Reader_take_name fd_Reader_take_name
  b_Reader_take_name : Binds K fd_Reader_take_name ["self"] []
  me_Reader_take_name : Meth K (Lz.kc 0) "take_name" f_Reader_take_name
  f_Reader_take_number : Addr
  fd_Reader_take_number : FuncData
  F_Reader_take_number : Fun K "take_number" "Reader.take_number" s_Reader_take_number f_Reader_take_number fd_Reader_take_number
  b_Reader_take_number : Binds K fd_Reader_take_number ["self", "most"] []
  me_Reader_take_number : Meth K (Lz.kc 0) "take_number" f_Reader_take_number
  f_Reader_take_names : Addr
  fd_Reader_take_names : FuncData
  F_Reader_take_names : Fun K "take_names" "Reader.take_names" s_Reader_take_names f_Reader_take_names fd_Reader_take_names
  b_Reader_take_names : Binds K fd_Reader_take_names ["self"] []
  me_Reader_take_names : Meth K (Lz.kc 0) "take_names" f_Reader_take_names
  f_Bounds___init : Addr
  fd_Bounds___init : FuncData
  F_Bounds___init : Fun K "__init__" "Bounds.__init__" s_Bounds___init f_Bounds___init fd_Bounds___init
  b_Bounds___init : Binds K fd_Bounds___init ["self", "most"] []
  mk_Bounds : Mk K (Lz.kc 1) f_Bounds___init
  f_Bounds_count_part : Addr
  fd_Bounds_count_part : FuncData
  F_Bounds_count_part : Fun K "count_part" "Bounds.count_part" s_Bounds_count_part f_Bounds_count_part fd_Bounds_count_part
  b_Bounds_count_part : Binds K fd_Bounds_count_part ["self"] []
  me_Bounds_count_part : Meth K (Lz.kc 1) "count_part" f_Bounds_count_part
  f_Bounds_count_pair : Addr
  fd_Bounds_count_pair : FuncData
  F_Bounds_count_pair : Fun K "count_pair" "Bounds.count_pair" s_Bounds_count_pair f_Bounds_count_pair fd_Bounds_count_pair
  b_Bounds_count_pair : Binds K fd_Bounds_count_pair ["self"] []
  me_Bounds_count_pair : Meth K (Lz.kc 1) "count_pair" f_Bounds_count_pair
  f_Bounds_enter_bracket : Addr
  fd_Bounds_enter_bracket : FuncData
  F_Bounds_enter_bracket : Fun K "enter_bracket" "Bounds.enter_bracket" s_Bounds_enter_bracket f_Bounds_enter_bracket fd_Bounds_enter_bracket
  b_Bounds_enter_bracket : Binds K fd_Bounds_enter_bracket ["self"] []
  me_Bounds_enter_bracket : Meth K (Lz.kc 1) "enter_bracket" f_Bounds_enter_bracket
  f_Bounds_leave_bracket : Addr
  fd_Bounds_leave_bracket : FuncData
  F_Bounds_leave_bracket : Fun K "leave_bracket" "Bounds.leave_bracket" s_Bounds_leave_bracket f_Bounds_leave_bracket fd_Bounds_leave_bracket
  b_Bounds_leave_bracket : Binds K fd_Bounds_leave_bracket ["self"] []
  me_Bounds_leave_bracket : Meth K (Lz.kc 1) "leave_bracket" f_Bounds_leave_bracket
  f_Bounds_enter_has : Addr
  fd_Bounds_enter_has : FuncData
  F_Bounds_enter_has : Fun K "enter_has" "Bounds.enter_has" s_Bounds_enter_has f_Bounds_enter_has fd_Bounds_enter_has
  b_Bounds_enter_has : Binds K fd_Bounds_enter_has ["self"] []
  me_Bounds_enter_has : Meth K (Lz.kc 1) "enter_has" f_Bounds_enter_has
  f_Bounds_leave_has : Addr
  fd_Bounds_leave_has : FuncData
  F_Bounds_leave_has : Fun K "leave_has" "Bounds.leave_has" s_Bounds_leave_has f_Bounds_leave_has fd_Bounds_leave_has
  b_Bounds_leave_has : Binds K fd_Bounds_leave_has ["self"] []
  me_Bounds_leave_has : Meth K (Lz.kc 1) "leave_has" f_Bounds_leave_has
  f_is_name : Addr
  fd_is_name : FuncData
  F_is_name : Fun K "is_name" "is_name" s_is_name f_is_name fd_is_name
  b_is_name : Binds K fd_is_name ["thing"] []
  g_is_name : mg "is_name" = some (.ref f_is_name)
  k_is_name : PySem.W.keepIn K (.ref f_is_name) = true
  f_are_unlike : Addr
  fd_are_unlike : FuncData
  F_are_unlike : Fun K "are_unlike" "are_unlike" s_are_unlike f_are_unlike fd_are_unlike
  b_are_unlike : Binds K fd_are_unlike ["names"] []
  g_are_unlike : mg "are_unlike" = some (.ref f_are_unlike)
  k_are_unlike : PySem.W.keepIn K (.ref f_are_unlike) = true
  f_written_number : Addr
  fd_written_number : FuncData
  F_written_number : Fun K "written_number" "written_number" s_written_number f_written_number fd_written_number
  b_written_number : Binds K fd_written_number ["text", "most"] []
  g_written_number : mg "written_number" = some (.ref f_written_number)
  k_written_number : PySem.W.keepIn K (.ref f_written_number) = true
  f_take_or : Addr
  fd_take_or : FuncData
  F_take_or : Fun K "take_or" "take_or" s_take_or f_take_or fd_take_or
  b_take_or : Binds K fd_take_or ["reader", "bounds"] []
  g_take_or : mg "take_or" = some (.ref f_take_or)
  k_take_or : PySem.W.keepIn K (.ref f_take_or) = true
  f_take_and : Addr
  fd_take_and : FuncData
  F_take_and : Fun K "take_and" "take_and" s_take_and f_take_and fd_take_and
  b_take_and : Binds K fd_take_and ["reader", "bounds"] []
  g_take_and : mg "take_and" = some (.ref f_take_and)
  k_take_and : PySem.W.keepIn K (.ref f_take_and) = true
  f_take_alone : Addr
  fd_take_alone : FuncData
  F_take_alone : Fun K "take_alone" "take_alone" s_take_alone f_take_alone fd_take_alone
  b_take_alone : Binds K fd_take_alone ["reader", "bounds"] []
  g_take_alone : mg "take_alone" = some (.ref f_take_alone)
  k_take_alone : PySem.W.keepIn K (.ref f_take_alone) = true
  f_take_bracket : Addr
  fd_take_bracket : FuncData
  F_take_bracket : Fun K "take_bracket" "take_bracket" s_take_bracket f_take_bracket fd_take_bracket
  b_take_bracket : Binds K fd_take_bracket ["reader", "bounds"] []
  g_take_bracket : mg "take_bracket" = some (.ref f_take_bracket)
  k_take_bracket : PySem.W.keepIn K (.ref f_take_bracket) = true
  f_take_has : Addr
  fd_take_has : FuncData
  F_take_has : Fun K "take_has" "take_has" s_take_has f_take_has fd_take_has
  b_take_has : Binds K fd_take_has ["reader", "bounds"] []
  g_take_has : mg "take_has" = some (.ref f_take_has)
  k_take_has : PySem.W.keepIn K (.ref f_take_has) = true
  f_take_about_column : Addr
  fd_take_about_column : FuncData
  F_take_about_column : Fun K "take_about_column" "take_about_column" s_take_about_column f_take_about_column fd_take_about_column
  b_take_about_column : Binds K fd_take_about_column ["reader"] []
  g_take_about_column : mg "take_about_column" = some (.ref f_take_about_column)
  k_take_about_column : PySem.W.keepIn K (.ref f_take_about_column) = true
  f_take_condition : Addr
  fd_take_condition : FuncData
  F_take_condition : Fun K "take_condition" "take_condition" s_take_condition f_take_condition fd_take_condition
  b_take_condition : Binds K fd_take_condition ["reader"] []
  g_take_condition : mg "take_condition" = some (.ref f_take_condition)
  k_take_condition : PySem.W.keepIn K (.ref f_take_condition) = true
  f_take_ask : Addr
  fd_take_ask : FuncData
  F_take_ask : Fun K "take_ask" "take_ask" s_take_ask f_take_ask fd_take_ask
  b_take_ask : Binds K fd_take_ask ["reader", "bounds"] []
  g_take_ask : mg "take_ask" = some (.ref f_take_ask)
  k_take_ask : PySem.W.keepIn K (.ref f_take_ask) = true
  f_take_first : Addr
  fd_take_first : FuncData
  F_take_first : Fun K "take_first" "take_first" s_take_first f_take_first fd_take_first
  b_take_first : Binds K fd_take_first ["reader", "bounds"] []
  g_take_first : mg "take_first" = some (.ref f_take_first)
  k_take_first : PySem.W.keepIn K (.ref f_take_first) = true
  f_take_step : Addr
  fd_take_step : FuncData
  F_take_step : Fun K "take_step" "take_step" s_take_step f_take_step fd_take_step
  b_take_step : Binds K fd_take_step ["reader", "ask"] []
  g_take_step : mg "take_step" = some (.ref f_take_step)
  k_take_step : PySem.W.keepIn K (.ref f_take_step) = true
  f_reader_of : Addr
  fd_reader_of : FuncData
  F_reader_of : Fun K "reader_of" "reader_of" s_reader_of f_reader_of fd_reader_of
  b_reader_of : Binds K fd_reader_of ["thing"] []
  g_reader_of : mg "reader_of" = some (.ref f_reader_of)
  k_reader_of : PySem.W.keepIn K (.ref f_reader_of) = true
  f_check_end : Addr
  fd_check_end : FuncData
  F_check_end : Fun K "check_end" "check_end" s_check_end f_check_end fd_check_end
  b_check_end : Binds K fd_check_end ["reader"] []
  g_check_end : mg "check_end" = some (.ref f_check_end)
  k_check_end : PySem.W.keepIn K (.ref f_check_end) = true
  f_read_condition : Addr
  fd_read_condition : FuncData
  F_read_condition : Fun K "read_condition" "read_condition" s_read_condition f_read_condition fd_read_condition
  b_read_condition : Binds K fd_read_condition ["thing"] []
  g_read_condition : mg "read_condition" = some (.ref f_read_condition)
  k_read_condition : PySem.W.keepIn K (.ref f_read_condition) = true
  f_read_ask : Addr
  fd_read_ask : FuncData
  F_read_ask : Fun K "read_ask" "read_ask" s_read_ask f_read_ask fd_read_ask
  b_read_ask : Binds K fd_read_ask ["thing"] []
  g_read_ask : mg "read_ask" = some (.ref f_read_ask)
  k_read_ask : PySem.W.keepIn K (.ref f_read_ask) = true
  f_law_cell_at : Addr
  fd_law_cell_at : FuncData
  F_law_cell_at : Fun K "_law_cell_at" "_law_cell_at" s_law_cell_at f_law_cell_at fd_law_cell_at
  b_law_cell_at : Binds K fd_law_cell_at ["script", "k"] []
  g_law_cell_at : mg "_law_cell_at" = some (.ref f_law_cell_at)
  k_law_cell_at : PySem.W.keepIn K (.ref f_law_cell_at) = true
  f_law_draws : Addr
  fd_law_draws : FuncData
  F_law_draws : Fun K "_law_draws" "_law_draws" s_law_draws f_law_draws fd_law_draws
  b_law_draws : Binds K fd_law_draws ["cell", "many", "base"] []
  g_law_draws : mg "_law_draws" = some (.ref f_law_draws)
  k_law_draws : PySem.W.keepIn K (.ref f_law_draws) = true
  f_law_name : Addr
  fd_law_name : FuncData
  F_law_name : Fun K "_law_name" "_law_name" s_law_name f_law_name fd_law_name
  b_law_name : Binds K fd_law_name ["some", "taken"] []
  g_law_name : mg "_law_name" = some (.ref f_law_name)
  k_law_name : PySem.W.keepIn K (.ref f_law_name) = true
  f_law_columns : Addr
  fd_law_columns : FuncData
  F_law_columns : Fun K "_law_columns" "_law_columns" s_law_columns f_law_columns fd_law_columns
  b_law_columns : Binds K fd_law_columns ["picks", "many", "top"] []
  g_law_columns : mg "_law_columns" = some (.ref f_law_columns)
  k_law_columns : PySem.W.keepIn K (.ref f_law_columns) = true
  f_law_ground : Addr
  fd_law_ground : FuncData
  F_law_ground : Fun K "_law_ground" "_law_ground" s_law_ground f_law_ground fd_law_ground
  b_law_ground : Binds K fd_law_ground ["picks", "top"] []
  g_law_ground : mg "_law_ground" = some (.ref f_law_ground)
  k_law_ground : PySem.W.keepIn K (.ref f_law_ground) = true
  f_law_atom : Addr
  fd_law_atom : FuncData
  F_law_atom : Fun K "_law_atom" "_law_atom" s_law_atom f_law_atom fd_law_atom
  b_law_atom : Binds K fd_law_atom ["picks", "columns", "ways"] []
  g_law_atom : mg "_law_atom" = some (.ref f_law_atom)
  k_law_atom : PySem.W.keepIn K (.ref f_law_atom) = true
  f_law_condition : Addr
  fd_law_condition : FuncData
  F_law_condition : Fun K "_law_condition" "_law_condition" s_law_condition f_law_condition fd_law_condition
  b_law_condition : Binds K fd_law_condition ["picks", "parts", "ground", "columns", "ways"] []
  g_law_condition : mg "_law_condition" = some (.ref f_law_condition)
  k_law_condition : PySem.W.keepIn K (.ref f_law_condition) = true
  f_law_new_names : Addr
  fd_law_new_names : FuncData
  F_law_new_names : Fun K "_law_new_names" "_law_new_names" s_law_new_names f_law_new_names fd_law_new_names
  b_law_new_names : Binds K fd_law_new_names ["picks", "many", "taken"] []
  g_law_new_names : mg "_law_new_names" = some (.ref f_law_new_names)
  k_law_new_names : PySem.W.keepIn K (.ref f_law_new_names) = true
  f_law_kin : Addr
  fd_law_kin : FuncData
  F_law_kin : Fun K "_law_kin" "_law_kin" s_law_kin f_law_kin fd_law_kin
  b_law_kin : Binds K fd_law_kin ["e"] []
  g_law_kin : mg "_law_kin" = some (.ref f_law_kin)
  k_law_kin : PySem.W.keepIn K (.ref f_law_kin) = true
  f_law_some_columns : Addr
  fd_law_some_columns : FuncData
  F_law_some_columns : Fun K "_law_some_columns" "_law_some_columns" s_law_some_columns f_law_some_columns fd_law_some_columns
  b_law_some_columns : Binds K fd_law_some_columns ["picks", "ground"] []
  g_law_some_columns : mg "_law_some_columns" = some (.ref f_law_some_columns)
  k_law_some_columns : PySem.W.keepIn K (.ref f_law_some_columns) = true
  f_law_rank : Addr
  fd_law_rank : FuncData
  F_law_rank : Fun K "_law_rank" "_law_rank" s_law_rank f_law_rank fd_law_rank
  b_law_rank : Binds K fd_law_rank ["told"] []
  g_law_rank : mg "_law_rank" = some (.ref f_law_rank)
  k_law_rank : PySem.W.keepIn K (.ref f_law_rank) = true
  f_law_put : Addr
  fd_law_put : FuncData
  F_law_put : Fun K "_law_put" "_law_put" s_law_put f_law_put fd_law_put
  b_law_put : Binds K fd_law_put ["told", "least"] []
  g_law_put : mg "_law_put" = some (.ref f_law_put)
  k_law_put : PySem.W.keepIn K (.ref f_law_put) = true
  f_law_words : Addr
  fd_law_words : FuncData
  F_law_words : Fun K "_law_words" "_law_words" s_law_words f_law_words fd_law_words
  b_law_words : Binds K fd_law_words ["told"] []
  g_law_words : mg "_law_words" = some (.ref f_law_words)
  k_law_words : PySem.W.keepIn K (.ref f_law_words) = true
  f_law_wide : Addr
  fd_law_wide : FuncData
  F_law_wide : Fun K "_law_wide" "_law_wide" s_law_wide f_law_wide fd_law_wide
  b_law_wide : Binds K fd_law_wide ["told", "picks", "deep"] []
  g_law_wide : mg "_law_wide" = some (.ref f_law_wide)
  k_law_wide : PySem.W.keepIn K (.ref f_law_wide) = true
  f_law_told : Addr
  fd_law_told : FuncData
  F_law_told : Fun K "_law_told" "_law_told" s_law_told f_law_told fd_law_told
  b_law_told : Binds K fd_law_told ["text", "way"] []
  g_law_told : mg "_law_told" = some (.ref f_law_told)
  k_law_told : PySem.W.keepIn K (.ref f_law_told) = true
  f_law : Addr
  fd_law : FuncData
  F_law : Fun K "law" "law" s_law f_law fd_law
  b_law : Binds K fd_law ["script"] []
  g_law : mg "law" = some (.ref f_law)
  k_law : PySem.W.keepIn K (.ref f_law) = true
  C_TooMany : Addr
  mgc_TooMany : mg "TooMany" = some (.ref C_TooMany)
  ec_TooMany : ErrC K C_TooMany
  C_NoAsk : Addr
  mgc_NoAsk : mg "NoAsk" = some (.ref C_NoAsk)
  ec_NoAsk : ErrC K C_NoAsk
  C_NoRight : Addr
  mgc_NoRight : mg "NoRight" = some (.ref C_NoRight)
  ec_NoRight : ErrC K C_NoRight
  C_NoRow : Addr
  mgc_NoRow : mg "NoRow" = some (.ref C_NoRow)
  ec_NoRow : ErrC K C_NoRow
  C_NotLet : Addr
  mgc_NotLet : mg "NotLet" = some (.ref C_NotLet)
  ec_NotLet : ErrC K C_NotLet
  C_Taken : Addr
  mgc_Taken : mg "Taken" = some (.ref C_Taken)
  ec_Taken : ErrC K C_Taken
  C_Full : Addr
  mgc_Full : mg "Full" = some (.ref C_Full)
  ec_Full : ErrC K C_Full
  C_NoCondition : Addr
  mgc_NoCondition : mg "NoCondition" = some (.ref C_NoCondition)
  ec_NoCondition : ErrC K C_NoCondition
  C_NoGround : Addr
  mgc_NoGround : mg "NoGround" = some (.ref C_NoGround)
  ec_NoGround : ErrC K C_NoGround
  C_NoRule : Addr
  mgc_NoRule : mg "NoRule" = some (.ref C_NoRule)
  ec_NoRule : ErrC K C_NoRule
  C_Twice : Addr
  mgc_Twice : mg "Twice" = some (.ref C_Twice)
  ec_Twice : ErrC K C_Twice
  C_NotThere : Addr
  mgc_NotThere : mg "NotThere" = some (.ref C_NotThere)
  ec_NotThere : ErrC K C_NotThere
  C_NoView : Addr
  mgc_NoView : mg "NoView" = some (.ref C_NoView)
  ec_NoView : ErrC K C_NoView
  C_InUse : Addr
  mgc_InUse : mg "InUse" = some (.ref C_InUse)
  ec_InUse : ErrC K C_InUse
  C_NoTable : Addr
  mgc_NoTable : mg "NoTable" = some (.ref C_NoTable)
  ec_NoTable : ErrC K C_NoTable
  C_NoUser : Addr
  mgc_NoUser : mg "NoUser" = some (.ref C_NoUser)
  ec_NoUser : ErrC K C_NoUser
  C_NoneOpen : Addr
  mgc_NoneOpen : mg "NoneOpen" = some (.ref C_NoneOpen)
  ec_NoneOpen : ErrC K C_NoneOpen
  C_TooDeep : Addr
  mgc_TooDeep : mg "TooDeep" = some (.ref C_TooDeep)
  ec_TooDeep : ErrC K C_TooDeep
  C_NoDeeds : Addr
  mgc_NoDeeds : mg "NoDeeds" = some (.ref C_NoDeeds)
  ec_NoDeeds : ErrC K C_NoDeeds
  C_NoText : Addr
  mgc_NoText : mg "NoText" = some (.ref C_NoText)
  ec_NoText : ErrC K C_NoText
  C_NoLine : Addr
  mgc_NoLine : mg "NoLine" = some (.ref C_NoLine)
  ec_NoLine : ErrC K C_NoLine
  C_VeilError : Addr
  mgc_VeilError : mg "VeilError" = some (.ref C_VeilError)
  ec_VeilError : ErrC K C_VeilError
  bv_VeilError : PySem.W.subIn K (.ref C_VeilError) (.type "BaseException") = some true
  er_NoText : ErrR K C_NoText
  sub_NoText_TooMany : PySem.W.subIn K (.ref C_NoText) (.ref C_TooMany) = some false
  sub_NoText_NoAsk : PySem.W.subIn K (.ref C_NoText) (.ref C_NoAsk) = some false
  sub_NoText_NoRight : PySem.W.subIn K (.ref C_NoText) (.ref C_NoRight) = some false
  sub_NoText_NoRow : PySem.W.subIn K (.ref C_NoText) (.ref C_NoRow) = some false
  sub_NoText_NotLet : PySem.W.subIn K (.ref C_NoText) (.ref C_NotLet) = some false
  sub_NoText_Taken : PySem.W.subIn K (.ref C_NoText) (.ref C_Taken) = some false
  sub_NoText_Full : PySem.W.subIn K (.ref C_NoText) (.ref C_Full) = some false
  sub_NoText_NoCondition : PySem.W.subIn K (.ref C_NoText) (.ref C_NoCondition) = some false
  sub_NoText_NoGround : PySem.W.subIn K (.ref C_NoText) (.ref C_NoGround) = some false
  sub_NoText_NoRule : PySem.W.subIn K (.ref C_NoText) (.ref C_NoRule) = some false
  sub_NoText_Twice : PySem.W.subIn K (.ref C_NoText) (.ref C_Twice) = some false
  sub_NoText_NotThere : PySem.W.subIn K (.ref C_NoText) (.ref C_NotThere) = some false
  sub_NoText_NoView : PySem.W.subIn K (.ref C_NoText) (.ref C_NoView) = some false
  sub_NoText_InUse : PySem.W.subIn K (.ref C_NoText) (.ref C_InUse) = some false
  sub_NoText_NoTable : PySem.W.subIn K (.ref C_NoText) (.ref C_NoTable) = some false
  sub_NoText_NoUser : PySem.W.subIn K (.ref C_NoText) (.ref C_NoUser) = some false
  sub_NoText_NoneOpen : PySem.W.subIn K (.ref C_NoText) (.ref C_NoneOpen) = some false
  sub_NoText_TooDeep : PySem.W.subIn K (.ref C_NoText) (.ref C_TooDeep) = some false
  sub_NoText_NoDeeds : PySem.W.subIn K (.ref C_NoText) (.ref C_NoDeeds) = some false
  sub_NoText_NoText : PySem.W.subIn K (.ref C_NoText) (.ref C_NoText) = some true
  sub_NoText_NoLine : PySem.W.subIn K (.ref C_NoText) (.ref C_NoLine) = some false
  sub_NoText_VeilError : PySem.W.subIn K (.ref C_NoText) (.ref C_VeilError) = some true
  sub_NoText_ValueError : PySem.W.subIn K (.ref C_NoText) (.type "ValueError") = some true
theorem sc_Reader___init : FnScope ["self", "words"] ["self", "words"] (defScope s_Reader___init) := ⟨rfl, rfl, rfl, by decide +kernel, rfl, by decide +kernel, by decide +kernel⟩
def mb_Reader___init : En → Option Fy :=
    (mSeqY
    (yOf (mFl (mPutF 0 "words" (mVar 1))))
    (yOf (mFl (mPutF 0 "place" (mC (.int 0))))))
def fs_Reader___init : List PyData → List PyData → Option ((PyData × List PyData) ⊕ Str) := runS 2 [0] mb_Reader___init
set_option maxHeartbeats 0 in
theorem ok_Reader___init {P : Program} {w : World} {K : PySem.W.Frag} {mg : Str → Option Value} {base : Heap} (T : Txt K mg w)  : FnOk P w K mg base (L2N.CX P w) (1) T.f_Reader___init T.fd_Reader___init ["self", "words"] (spS K JJ mg [0] 1 fs_Reader___init) := by
  have F := defX_fam (P := P) (w := w) (K := K) (mg := mg) (base := base) (qual := "Reader.__init__") (sc := defScope s_Reader___init) (f := T.f_Reader___init) (j := 0) sc_Reader___init.nd
  have hS := fun i => (rfl : (defX P w K mg base ["self", "words"] "Reader.__init__" (defScope s_Reader___init) T.f_Reader___init (0) i).env.scope = defScope s_Reader___init)
  exact fn_S (M := mP [0, 4000] 1 rfl) T.F_Reader___init sc_Reader___init (frS rfl rfl rfl rfl) rfl (fun as hl =>
      (ys_cons
      (y_of (x_of (s_putF F 0 0 "words" (d_var 1) T.cl_Reader T.na_Reader_words (T.fk_ _ _))))
      (ys_one
      (y_of (x_of (s_putF F 0 0 "place" d_int T.cl_Reader T.na_Reader_place (T.fk_ _ _)))))))
theorem sc_Reader_ahead : FnScope ["self"] ["self"] (defScope s_Reader_ahead) := ⟨rfl, rfl, rfl, by decide +kernel, rfl, by decide +kernel, by decide +kernel⟩
def mb_Reader_ahead : En → Option Fy :=
    (mRetY (zOf (mIf (mTst (mBin dLt (mFld 0 "place") (mCB bLen (mCons (mFld 0 "words") mNil)))) (mBin dIx (mFld 0 "words") (mFld 0 "place")) (mC .none))))
def fs_Reader_ahead : List PyData → List PyData → Option ((PyData × List PyData) ⊕ Str) := runS 1 [0] mb_Reader_ahead
set_option maxHeartbeats 0 in
theorem ok_Reader_ahead {P : Program} {w : World} {K : PySem.W.Frag} {mg : Str → Option Value} {base : Heap} (T : Txt K mg w)  : FnOk P w K mg base (L2N.CX P w) (1) T.f_Reader_ahead T.fd_Reader_ahead ["self"] (spS K JJ mg [0] 0 fs_Reader_ahead) := by
  have F := defX_fam (P := P) (w := w) (K := K) (mg := mg) (base := base) (qual := "Reader.ahead") (sc := defScope s_Reader_ahead) (f := T.f_Reader_ahead) (j := 0) sc_Reader_ahead.nd
  have hS := fun i => (rfl : (defX P w K mg base ["self"] "Reader.ahead" (defScope s_Reader_ahead) T.f_Reader_ahead (0) i).env.scope = defScope s_Reader_ahead)
  exact fn_S (M := mP [0, 4000] 1 rfl) T.F_Reader_ahead sc_Reader_ahead (frS rfl rfl rfl rfl) rfl (fun as hl =>
      (ys_one
      (y_ret (z_of (d_if (t_cmp (fun i => op_ltAll (F.hK i) (F.u64 i)) opd_lt (q_of (d_fld F 0 0 "place" T.cl_Reader T.na_Reader_place (T.fk_ _ _))) (q_of (d_cb (fun i => cr_len (F.hK i)) crd_len (fun _ => T.n_len) (by decide +kernel) (b_cons (q_of (d_fld F 0 0 "words" T.cl_Reader T.na_Reader_words (T.fk_ _ _))) b_nil)))) (d_ix (fun i => ix_seqK (F.hK i)) opd_ix (q_of (d_fld F 0 0 "words" T.cl_Reader T.na_Reader_words (T.fk_ _ _))) (q_of (d_fld F 0 0 "place" T.cl_Reader T.na_Reader_place (T.fk_ _ _)))) d_non)))))
theorem sc_Reader_take : FnScope ["self", "word"] ["self"] (defScope s_Reader_take) := ⟨rfl, rfl, rfl, by decide +kernel, rfl, by decide +kernel, by decide +kernel⟩
def mb_Reader_take : En → Option Fy :=
    (mSeqY
    (mAsgY (mMeth "ahead" 0 0 0 fs_Reader_ahead mNilZ) 1)
    (mSeqY
    (mIfY (zOf (mTst (mBin (dIs false) (mVar 1) (mC .none)))) (yOf (fun env => ((mC (.str "the text ends too soon")) env).bind fun _ => some (.xc "NoText" env))) (fun env => some (.nx env)))
    (mSeqY
    (yOf (mFl (mAugF 0 "place" (mC (.int 1)))))
    (mRetY (zOf (mVar 1))))))
def fs_Reader_take : List PyData → List PyData → Option ((PyData × List PyData) ⊕ Str) := runS 2 [0] mb_Reader_take
set_option maxHeartbeats 0 in
theorem ok_Reader_take {P : Program} {w : World} {K : PySem.W.Frag} {mg : Str → Option Value} {base : Heap} (T : Txt K mg w) (G_Reader_ahead : FnOk P w K mg base (L2N.CX P w) (1) T.f_Reader_ahead T.fd_Reader_ahead ["self"] (spS K JJ mg [0] 0 fs_Reader_ahead)) : FnOk P w K mg base (L2N.CX P w) (2) T.f_Reader_take T.fd_Reader_take ["self"] (spS K JJ mg [0] 0 fs_Reader_take) := by
  have F := defX_fam (P := P) (w := w) (K := K) (mg := mg) (base := base) (qual := "Reader.take") (sc := defScope s_Reader_take) (f := T.f_Reader_take) (j := 1) sc_Reader_take.nd
  have hS := fun i => (rfl : (defX P w K mg base ["self", "word"] "Reader.take" (defScope s_Reader_take) T.f_Reader_take (1) i).env.scope = defScope s_Reader_take)
  exact fn_S (M := mP [0, 4000] 1 rfl) T.F_Reader_take sc_Reader_take (frS rfl rfl rfl rfl) rfl (fun as hl =>
      (ys_cons
      (y_asg F 1 (z_meth (i := 0) (c := 0) (n := 0) (m := "ahead") (fn := fs_Reader_ahead) (fun j => pe_methE0 (pv 0) T.cl_Reader T.me_Reader_ahead G_Reader_ahead ((F.room j).mono (by omega)) T.b_Reader_ahead (fun σ => L2N.passAt (defX_tk j) σ)) snd_nilZ (okS rfl (by decide)) (fun _ h => h)))
      (ys_cons
      (y_if (zt_of (t_cmp (fun _ => op_isB) (opd_is false) (q_of (d_var 1)) (q_of d_non))) (ys_one
      (y_of (have hE := d_str; x_raiseA F T.mgc_NoText defX_tk hE (fun i => pmk_any PySem.F.excBase_ValueError T.er_NoText.xc T.mgc_NoText T.er_NoText.kc (raises_own T.er_NoText.bc T.ec_NoText.ty) rfl (hE.pe i))))) ys_nil)
      (ys_cons
      (y_of (x_of (s_augF F 0 0 "place" d_int T.cl_Reader T.na_Reader_place (T.fk_ _ _))))
      (ys_one
      (y_ret (z_of (d_var 1))))))))
theorem sc_Reader_takes : FnScope ["self", "word"] ["self", "word"] (defScope s_Reader_takes) := ⟨rfl, rfl, rfl, by decide +kernel, rfl, by decide +kernel, by decide +kernel⟩
def mb_Reader_takes : En → Option Fy :=
    (mSeqY
    (mIfY (mCmpZ dNe (mMeth "ahead" 0 0 0 fs_Reader_ahead mNilZ) (zOf (mVar 1))) (mRetY (zOf (mC (.bool false)))) (fun env => some (.nx env)))
    (mSeqY
    (yOf (mFl (mAugF 0 "place" (mC (.int 1)))))
    (mRetY (zOf (mC (.bool true))))))
def fs_Reader_takes : List PyData → List PyData → Option ((PyData × List PyData) ⊕ Str) := runS 2 [0] mb_Reader_takes
set_option maxHeartbeats 0 in
theorem ok_Reader_takes {P : Program} {w : World} {K : PySem.W.Frag} {mg : Str → Option Value} {base : Heap} (T : Txt K mg w) (G_Reader_ahead : FnOk P w K mg base (L2N.CX P w) (1) T.f_Reader_ahead T.fd_Reader_ahead ["self"] (spS K JJ mg [0] 0 fs_Reader_ahead)) : FnOk P w K mg base (L2N.CX P w) (2) T.f_Reader_takes T.fd_Reader_takes ["self", "word"] (spS K JJ mg [0] 1 fs_Reader_takes) := by
  have F := defX_fam (P := P) (w := w) (K := K) (mg := mg) (base := base) (qual := "Reader.takes") (sc := defScope s_Reader_takes) (f := T.f_Reader_takes) (j := 1) sc_Reader_takes.nd
  have hS := fun i => (rfl : (defX P w K mg base ["self", "word"] "Reader.takes" (defScope s_Reader_takes) T.f_Reader_takes (1) i).env.scope = defScope s_Reader_takes)
  exact fn_S (M := mP [0, 4000] 1 rfl) T.F_Reader_takes sc_Reader_takes (frS rfl rfl rfl rfl) rfl (fun as hl =>
      (ys_cons
      (y_if (zt_cmp (fun i => op_neK (F.hK i) (F.u64 i)) opd_ne (z_meth (i := 0) (c := 0) (n := 0) (m := "ahead") (fn := fs_Reader_ahead) (fun j => pe_methE0 (pv 0) T.cl_Reader T.me_Reader_ahead G_Reader_ahead ((F.room j).mono (by omega)) T.b_Reader_ahead (fun σ => L2N.passAt (defX_tk j) σ)) snd_nilZ (okS rfl (by decide)) (fun _ h => h)) (z_of (d_var 1))) (ys_one
      (y_ret (z_of d_bl))) ys_nil)
      (ys_cons
      (y_of (x_of (s_augF F 0 0 "place" d_int T.cl_Reader T.na_Reader_place (T.fk_ _ _))))
      (ys_one
      (y_ret (z_of d_bl))))))
theorem sc_Reader_take_this : FnScope ["self", "word"] ["self", "word"] (defScope s_Reader_take_this) := ⟨rfl, rfl, rfl, by decide +kernel, rfl, by decide +kernel, by decide +kernel⟩
def mb_Reader_take_this : En → Option Fy :=
    (mIfY (mNotZ (mTruZ (mMeth "takes" 0 0 1 fs_Reader_takes (mConsZ (zOf (mVar 1)) mNilZ)))) (yOf (fun env => ((mFs [mLit "no ", mFmt (mVar 1), mLit " where one must stand"]) env).bind fun _ => some (.xc "NoText" env))) (fun env => some (.nx env)))
def fs_Reader_take_this : List PyData → List PyData → Option ((PyData × List PyData) ⊕ Str) := runS 2 [0] mb_Reader_take_this
set_option maxHeartbeats 0 in
theorem ok_Reader_take_this {P : Program} {w : World} {K : PySem.W.Frag} {mg : Str → Option Value} {base : Heap} (T : Txt K mg w) (G_Reader_takes : FnOk P w K mg base (L2N.CX P w) (2) T.f_Reader_takes T.fd_Reader_takes ["self", "word"] (spS K JJ mg [0] 1 fs_Reader_takes)) : FnOk P w K mg base (L2N.CX P w) (3) T.f_Reader_take_this T.fd_Reader_take_this ["self", "word"] (spS K JJ mg [0] 1 fs_Reader_take_this) := by
  have F := defX_fam (P := P) (w := w) (K := K) (mg := mg) (base := base) (qual := "Reader.take_this") (sc := defScope s_Reader_take_this) (f := T.f_Reader_take_this) (j := 2) sc_Reader_take_this.nd
  have hS := fun i => (rfl : (defX P w K mg base ["self", "word"] "Reader.take_this" (defScope s_Reader_take_this) T.f_Reader_take_this (2) i).env.scope = defScope s_Reader_take_this)
  exact fn_S (M := mP [0, 4000] 1 rfl) T.F_Reader_take_this sc_Reader_take_this (frS rfl rfl rfl rfl) rfl (fun as hl =>
      (ys_one
      (y_if (zt_not (zt_tru F (z_methA (i := 0) (c := 0) (n := 1) (fn := fs_Reader_takes) (fun _ => T.cl_Reader) (fun _ => T.me_Reader_takes) (fun _ => G_Reader_takes) (fun j => (F.room j).mono (by omega)) (fun _ => T.b_Reader_takes) defX_tk (za_cons (W := defW) (z_of (d_var 1)) za_nil) (okS rfl (by decide)) (fun _ h => h)))) (ys_one
      (y_of (have hE := (d_fstr (j_lit (j_fmt (d_var 1) (j_lit j_nil)))); x_raiseA F T.mgc_NoText defX_tk hE (fun i => pmk_any PySem.F.excBase_ValueError T.er_NoText.xc T.mgc_NoText T.er_NoText.kc (raises_own T.er_NoText.bc T.ec_NoText.ty) rfl (hE.pe i))))) ys_nil)))
theorem sc_is_name : FnScope ["thing", "letter"] ["thing"] (defScope s_is_name) := ⟨rfl, rfl, rfl, by decide +kernel, rfl, by decide +kernel, by decide +kernel⟩
def le1_is_name : En → Option PyData :=
    (mBin (dIn false) (mVar 1) (mC c_LETTERS))
def mb_is_name : En → Option Fl :=
    (mSeq
    (mIfS (mOrT (mNotT (mTru (mIsi (isiD "str") (mVar 0)))) (mNotT (mTst (mChain dLe dLe (mC (.int 1)) (mCB bLen (mCons (mVar 0) mNil)) (mC c_LONGEST_NAME))))) (mRet (mC (.bool false))) mNext)
    (mRet (mAnd (mBin (dIn true) (mVar 0) (mC c_WORDS)) (mCB bAll (mCons (mLc [1] (mIt (mVar 0)) (gB 1) mYes le1_is_name) mNil)))))
def fm_is_name : List PyData → Option PyData := runB 2 mb_is_name
theorem ok_is_name {P : Program} {w : World} {K : PySem.W.Frag} {mg : Str → Option Value} {base : Heap} (T : Txt K mg w)  : FnOk P w K mg base CX0 (1) T.f_is_name T.fd_is_name ["thing"] (spD K JJ 1 fm_is_name) := by
  have F := defF_fam (P := P) (w := w) (K := K) (mg := mg) (base := base) (qual := "is_name") (sc := defScope s_is_name) (f := T.f_is_name) (j := 0) sc_is_name.nd
  have hS := fun i => (rfl : (defF P w K mg base ["thing", "letter"] "is_name" (defScope s_is_name) T.f_is_name (0) i).env.scope = defScope s_is_name)
  exact fn_data (M := mJ []) T.F_is_name sc_is_name (mmAll rfl)
      (ss_cons
      (s_if (w_pt (w_or (t_not (t_tru F (q_of (d_isi F "str" (q_of (d_var 0)) (fun _ => T.n_isinstance) (fun _ => T.n_str) isiT_str (by decide +kernel))))) (w_or1 (t_not (t_chain (fun _ => op_le) opd_le (fun _ => op_le) opd_le (q_of d_int) (q_of (d_cb (fun i => cr_len (F.hK i)) crd_len (fun _ => T.n_len) (by decide +kernel) (b_cons (q_of (d_var 0)) b_nil))) (q_of (d_glob T.dp_LONGEST_NAME (fun _ => pe_glob rfl T.mg_LONGEST_NAME T.rl_LONGEST_NAME)))))))) (ss_one
      (s_ret d_bl)) ss_nil)
      (ss_one
      (s_ret (d_and F (d_cmp (fun i => op_notIns (F.hK i) (F.u65 i)) (opd_in true) (q_of (d_var 0)) (q_of (d_glob T.dp_WORDS (fun _ => pe_glob rfl T.mg_WORDS T.rl_WORDS)))) (d_one (d_cb (fun i => cr_allK (F.hK i) (F.calm i)) crd_all (fun _ => T.n_all) (by decide +kernel) (b_cons (q_of (d_lc F [("letter", 1)] (i_weak (i_seq F (d_var 0))) hS (blkOk_by (by decide +kernel)) (g_name (F.blk _) 1) gk_name ts_nil (d_cmp (fun i => op_ins ((F.blk _).hK i) ((F.blk _).u65 i)) (opd_in false) (q_of (d_var 1)) (q_of (d_glob T.dp_LETTERS (fun _ => pe_glob rfl T.mg_LETTERS T.rl_LETTERS)))))) b_nil)))))))
theorem sc_Reader_take_name : FnScope ["self", "word"] ["self"] (defScope s_Reader_take_name) := ⟨rfl, rfl, rfl, by decide +kernel, rfl, by decide +kernel, by decide +kernel⟩
def mb_Reader_take_name : En → Option Fy :=
    (mSeqY
    (mAsgY (mMeth "take" 0 0 0 fs_Reader_take mNilZ) 1)
    (mSeqY
    (mIfY (zOf (mNotT (mTru (mCB fm_is_name (mCons (mVar 1) mNil))))) (yOf (fun env => ((mC (.str "no name where one must stand")) env).bind fun _ => some (.xc "NoText" env))) (fun env => some (.nx env)))
    (mRetY (zOf (mVar 1)))))
def fs_Reader_take_name : List PyData → List PyData → Option ((PyData × List PyData) ⊕ Str) := runS 2 [0] mb_Reader_take_name
set_option maxHeartbeats 0 in
theorem ok_Reader_take_name {P : Program} {w : World} {K : PySem.W.Frag} {mg : Str → Option Value} {base : Heap} (T : Txt K mg w) (G_is_name : FnOk P w K mg base CX0 (1) T.f_is_name T.fd_is_name ["thing"] (spD K JJ 1 fm_is_name)) (G_Reader_take : FnOk P w K mg base (L2N.CX P w) (2) T.f_Reader_take T.fd_Reader_take ["self"] (spS K JJ mg [0] 0 fs_Reader_take)) : FnOk P w K mg base (L2N.CX P w) (3) T.f_Reader_take_name T.fd_Reader_take_name ["self"] (spS K JJ mg [0] 0 fs_Reader_take_name) := by
  have F := defX_fam (P := P) (w := w) (K := K) (mg := mg) (base := base) (qual := "Reader.take_name") (sc := defScope s_Reader_take_name) (f := T.f_Reader_take_name) (j := 2) sc_Reader_take_name.nd
  have hS := fun i => (rfl : (defX P w K mg base ["self", "word"] "Reader.take_name" (defScope s_Reader_take_name) T.f_Reader_take_name (2) i).env.scope = defScope s_Reader_take_name)
  exact fn_S (M := mP [0, 4000] 1 rfl) T.F_Reader_take_name sc_Reader_take_name (frS rfl rfl rfl rfl) rfl (fun as hl =>
      (ys_cons
      (y_asg F 1 (z_meth (i := 0) (c := 0) (n := 0) (m := "take") (fn := fs_Reader_take) (fun j => pe_methE0 (pv 0) T.cl_Reader T.me_Reader_take G_Reader_take ((F.room j).mono (by omega)) T.b_Reader_take (fun σ => L2N.passAt (defX_tk j) σ)) snd_nilZ (okS rfl (by decide)) (fun _ h => h)))
      (ys_cons
      (y_if (zt_of (t_not (t_tru F (q_of (d_call (fun _ => G_is_name) (fun i => (F.room i).mono (by omega)) (fun _ => T.g_is_name) (fun _ => T.k_is_name) (fun _ => T.b_is_name) (a_cons (d_var 1) a_nil) (len_cons len_nil)))))) (ys_one
      (y_of (have hE := d_str; x_raiseA F T.mgc_NoText defX_tk hE (fun i => pmk_any PySem.F.excBase_ValueError T.er_NoText.xc T.mgc_NoText T.er_NoText.kc (raises_own T.er_NoText.bc T.ec_NoText.ty) rfl (hE.pe i))))) ys_nil)
      (ys_one
      (y_ret (z_of (d_var 1)))))))
theorem sc_written_number : FnScope ["text", "most", "number", "sign"] ["text", "most"] (defScope s_written_number) := ⟨rfl, rfl, rfl, by decide +kernel, rfl, by decide +kernel, by decide +kernel⟩
def le1_written_number : En → Option PyData :=
    (mBin (dIn false) (mVar 3) (mC c_FIGURES))
def mb_written_number : En → Option Fl :=
    (mSeq
    (mIfS (mOrT (mNotT (mTst (mChain dLe dLe (mC (.int 1)) (mCB bLen (mCons (mVar 0) mNil)) (mC c_MOST_FIGURES)))) (mNotT (mTru (mCB bAll (mCons (mLc [3] (mIt (mVar 0)) (gB 3) mYes le1_written_number) mNil))))) (mRet (mC .none)) mNext)
    (mSeq
    (mAsg (mCB bIntS (mCons (mVar 0) mNil)) (gB 2))
    (mRet (mIf (mAndT (mTst (mBin dLe (mVar 2) (mVar 1))) (mTst (mBin dEq (mCB bStr (mCons (mVar 2) mNil)) (mVar 0)))) (mVar 2) (mC .none)))))
def fm_written_number : List PyData → Option PyData := runB 4 mb_written_number
theorem ok_written_number {P : Program} {w : World} {K : PySem.W.Frag} {mg : Str → Option Value} {base : Heap} (T : Txt K mg w)  : FnOk P w K mg base CX0 (1) T.f_written_number T.fd_written_number ["text", "most"] (spD K JJ 2 fm_written_number) := by
  have F := defF_fam (P := P) (w := w) (K := K) (mg := mg) (base := base) (qual := "written_number") (sc := defScope s_written_number) (f := T.f_written_number) (j := 0) sc_written_number.nd
  have hS := fun i => (rfl : (defF P w K mg base ["text", "most", "number", "sign"] "written_number" (defScope s_written_number) T.f_written_number (0) i).env.scope = defScope s_written_number)
  exact fn_data (M := mJ []) T.F_written_number sc_written_number (mmAll rfl)
      (ss_cons
      (s_if (w_pt (w_or (t_not (t_chain (fun _ => op_le) opd_le (fun _ => op_le) opd_le (q_of d_int) (q_of (d_cb (fun i => cr_len (F.hK i)) crd_len (fun _ => T.n_len) (by decide +kernel) (b_cons (q_of (d_var 0)) b_nil))) (q_of (d_glob T.dp_MOST_FIGURES (fun _ => pe_glob rfl T.mg_MOST_FIGURES T.rl_MOST_FIGURES))))) (w_or1 (t_not (t_tru F (q_of (d_cb (fun i => cr_allK (F.hK i) (F.calm i)) crd_all (fun _ => T.n_all) (by decide +kernel) (b_cons (q_of (d_lc F [("sign", 3)] (i_weak (i_seq F (d_var 0))) hS (blkOk_by (by decide +kernel)) (g_name (F.blk _) 3) gk_name ts_nil (d_cmp (fun i => op_ins ((F.blk _).hK i) ((F.blk _).u65 i)) (opd_in false) (q_of (d_var 3)) (q_of (d_glob T.dp_FIGURES (fun _ => pe_glob rfl T.mg_FIGURES T.rl_FIGURES)))))) b_nil)))))))) (ss_one
      (s_ret d_non)) ss_nil)
      (ss_cons
      (s_set F 2 (d_ty (fun _ => cr_intS) crd_intS (fun _ => T.n_int) (by decide +kernel) (b_cons (q_of (d_var 0)) b_nil)))
      (ss_one
      (s_ret (d_if (w_pt (w_and (t_cmp (fun _ => op_le) opd_le (q_of (d_var 2)) (q_of (d_var 1))) (w_and1 (t_cmp (fun i => op_eqK (F.hK i) (F.u64 i)) opd_eq (q_of (d_ty (fun _ => cr_str) crd_str (fun _ => T.n_str) (by decide +kernel) (b_cons (q_of (d_var 2)) b_nil))) (q_of (d_var 0)))))) (d_var 2) d_non)))))
theorem sc_Reader_take_number : FnScope ["self", "most", "number"] ["self", "most"] (defScope s_Reader_take_number) := ⟨rfl, rfl, rfl, by decide +kernel, rfl, by decide +kernel, by decide +kernel⟩
def mb_Reader_take_number : En → Option Fy :=
    (mSeqY
    (mAsgY (mDataZ 2 fm_written_number (mConsZ (mMeth "take" 0 0 0 fs_Reader_take mNilZ) (mConsZ (zOf (mVar 1)) mNilZ))) 2)
    (mSeqY
    (mIfY (zOf (mTst (mBin (dIs false) (mVar 2) (mC .none)))) (yOf (fun env => ((mC (.str "no number where one must stand")) env).bind fun _ => some (.xc "NoText" env))) (fun env => some (.nx env)))
    (mRetY (zOf (mVar 2)))))
def fs_Reader_take_number : List PyData → List PyData → Option ((PyData × List PyData) ⊕ Str) := runS 3 [0] mb_Reader_take_number
set_option maxHeartbeats 0 in
theorem ok_Reader_take_number {P : Program} {w : World} {K : PySem.W.Frag} {mg : Str → Option Value} {base : Heap} (T : Txt K mg w) (G_written_number : FnOk P w K mg base CX0 (1) T.f_written_number T.fd_written_number ["text", "most"] (spD K JJ 2 fm_written_number)) (G_Reader_take : FnOk P w K mg base (L2N.CX P w) (2) T.f_Reader_take T.fd_Reader_take ["self"] (spS K JJ mg [0] 0 fs_Reader_take)) : FnOk P w K mg base (L2N.CX P w) (3) T.f_Reader_take_number T.fd_Reader_take_number ["self", "most"] (spS K JJ mg [0] 1 fs_Reader_take_number) := by
  have F := defX_fam (P := P) (w := w) (K := K) (mg := mg) (base := base) (qual := "Reader.take_number") (sc := defScope s_Reader_take_number) (f := T.f_Reader_take_number) (j := 2) sc_Reader_take_number.nd
  have hS := fun i => (rfl : (defX P w K mg base ["self", "most", "number"] "Reader.take_number" (defScope s_Reader_take_number) T.f_Reader_take_number (2) i).env.scope = defScope s_Reader_take_number)
  exact fn_S (M := mP [0, 4000] 1 rfl) T.F_Reader_take_number sc_Reader_take_number (frS rfl rfl rfl rfl) rfl (fun as hl =>
      (ys_cons
      (y_asg F 2 (z_dataA (n := 2) (fn := fm_written_number) (fun _ => G_written_number) (fun j => (F.room j).mono (by omega)) (fun _ => T.g_written_number) (fun _ => T.k_written_number) (fun _ => T.b_written_number) (za_cons (W := defW) (z_meth (i := 0) (c := 0) (n := 0) (m := "take") (fn := fs_Reader_take) (fun j => pe_methE0 (pv 0) T.cl_Reader T.me_Reader_take G_Reader_take ((F.room j).mono (by omega)) T.b_Reader_take (fun σ => L2N.passAt (defX_tk j) σ)) snd_nilZ (okS rfl (by decide)) (fun _ h => h)) (za_cons (W := defW) (z_of (d_var 1)) za_nil))))
      (ys_cons
      (y_if (zt_of (t_cmp (fun _ => op_isB) (opd_is false) (q_of (d_var 2)) (q_of d_non))) (ys_one
      (y_of (have hE := d_str; x_raiseA F T.mgc_NoText defX_tk hE (fun i => pmk_any PySem.F.excBase_ValueError T.er_NoText.xc T.mgc_NoText T.er_NoText.kc (raises_own T.er_NoText.bc T.ec_NoText.ty) rfl (hE.pe i))))) ys_nil)
      (ys_one
      (y_ret (z_of (d_var 2)))))))
theorem sc_Reader_take_names : FnScope ["self", "names", "name"] ["self"] (defScope s_Reader_take_names) := ⟨rfl, rfl, rfl, by decide +kernel, rfl, by decide +kernel, by decide +kernel⟩
def fs_Reader_take_names : List PyData → List PyData → Option ((PyData × List PyData) ⊕ Str) := fun _ _ => none
theorem ok_Reader_take_names {P : Program} {w : World} {K : PySem.W.Frag} {mg : Str → Option Value} {base : Heap} (T : Txt K mg w) : FnOk P w K mg base (L2N.CX P w) (1) T.f_Reader_take_names T.fd_Reader_take_names ["self"] (spS K JJ mg [0] 0 fs_Reader_take_names) := fn_noneS (j := 0) T.F_Reader_take_names sc_Reader_take_names rfl (fun _ _ => rfl)
theorem sc_Bounds___init : FnScope ["self", "most"] ["self", "most"] (defScope s_Bounds___init) := ⟨rfl, rfl, rfl, by decide +kernel, rfl, by decide +kernel, by decide +kernel⟩
def mb_Bounds___init : En → Option Fy :=
    (mSeqY
    (yOf (mFl (mPutF 0 "most" (mVar 1))))
    (mSeqY
    (yOf (mFl (mPutF 0 "parts" (mC (.int 0)))))
    (mSeqY
    (yOf (mFl (mPutF 0 "pairs" (mC (.int 0)))))
    (mSeqY
    (yOf (mFl (mPutF 0 "brackets" (mC (.int 0)))))
    (yOf (mFl (mPutF 0 "within_has" (mC (.bool false)))))))))
def fs_Bounds___init : List PyData → List PyData → Option ((PyData × List PyData) ⊕ Str) := runS 2 [1] mb_Bounds___init
set_option maxHeartbeats 0 in
theorem ok_Bounds___init {P : Program} {w : World} {K : PySem.W.Frag} {mg : Str → Option Value} {base : Heap} (T : Txt K mg w)  : FnOk P w K mg base (L2N.CX P w) (1) T.f_Bounds___init T.fd_Bounds___init ["self", "most"] (spS K JJ mg [1] 1 fs_Bounds___init) := by
  have F := defX_fam (P := P) (w := w) (K := K) (mg := mg) (base := base) (qual := "Bounds.__init__") (sc := defScope s_Bounds___init) (f := T.f_Bounds___init) (j := 0) sc_Bounds___init.nd
  have hS := fun i => (rfl : (defX P w K mg base ["self", "most"] "Bounds.__init__" (defScope s_Bounds___init) T.f_Bounds___init (0) i).env.scope = defScope s_Bounds___init)
  exact fn_S (M := mP [0, 5000] 1 rfl) T.F_Bounds___init sc_Bounds___init (frS rfl rfl rfl rfl) rfl (fun as hl =>
      (ys_cons
      (y_of (x_of (s_putF F 0 1 "most" (d_var 1) T.cl_Bounds T.na_Bounds_most (T.fk_ _ _))))
      (ys_cons
      (y_of (x_of (s_putF F 0 1 "parts" d_int T.cl_Bounds T.na_Bounds_parts (T.fk_ _ _))))
      (ys_cons
      (y_of (x_of (s_putF F 0 1 "pairs" d_int T.cl_Bounds T.na_Bounds_pairs (T.fk_ _ _))))
      (ys_cons
      (y_of (x_of (s_putF F 0 1 "brackets" d_int T.cl_Bounds T.na_Bounds_brackets (T.fk_ _ _))))
      (ys_one
      (y_of (x_of (s_putF F 0 1 "within_has" d_bl T.cl_Bounds T.na_Bounds_within_has (T.fk_ _ _))))))))))
theorem sc_Bounds_count_part : FnScope ["self"] ["self"] (defScope s_Bounds_count_part) := ⟨rfl, rfl, rfl, by decide +kernel, rfl, by decide +kernel, by decide +kernel⟩
def mb_Bounds_count_part : En → Option Fy :=
    (mSeqY
    (yOf (mFl (mAugF 0 "parts" (mC (.int 1)))))
    (mIfY (zOf (mTst (mBin dGt (mFld 0 "parts") (mFld 0 "most")))) (yOf (fun env => ((mC (.str "too many parts")) env).bind fun _ => some (.xc "NoText" env))) (fun env => some (.nx env))))
def fs_Bounds_count_part : List PyData → List PyData → Option ((PyData × List PyData) ⊕ Str) := runS 1 [1] mb_Bounds_count_part
set_option maxHeartbeats 0 in
theorem ok_Bounds_count_part {P : Program} {w : World} {K : PySem.W.Frag} {mg : Str → Option Value} {base : Heap} (T : Txt K mg w)  : FnOk P w K mg base (L2N.CX P w) (1) T.f_Bounds_count_part T.fd_Bounds_count_part ["self"] (spS K JJ mg [1] 0 fs_Bounds_count_part) := by
  have F := defX_fam (P := P) (w := w) (K := K) (mg := mg) (base := base) (qual := "Bounds.count_part") (sc := defScope s_Bounds_count_part) (f := T.f_Bounds_count_part) (j := 0) sc_Bounds_count_part.nd
  have hS := fun i => (rfl : (defX P w K mg base ["self"] "Bounds.count_part" (defScope s_Bounds_count_part) T.f_Bounds_count_part (0) i).env.scope = defScope s_Bounds_count_part)
  exact fn_S (M := mP [0, 5000] 1 rfl) T.F_Bounds_count_part sc_Bounds_count_part (frS rfl rfl rfl rfl) rfl (fun as hl =>
      (ys_cons
      (y_of (x_of (s_augF F 0 1 "parts" d_int T.cl_Bounds T.na_Bounds_parts (T.fk_ _ _))))
      (ys_one
      (y_if (zt_of (t_cmp (fun _ => op_gt) opd_gt (q_of (d_fld F 0 1 "parts" T.cl_Bounds T.na_Bounds_parts (T.fk_ _ _))) (q_of (d_fld F 0 1 "most" T.cl_Bounds T.na_Bounds_most (T.fk_ _ _))))) (ys_one
      (y_of (have hE := d_str; x_raiseA F T.mgc_NoText defX_tk hE (fun i => pmk_any PySem.F.excBase_ValueError T.er_NoText.xc T.mgc_NoText T.er_NoText.kc (raises_own T.er_NoText.bc T.ec_NoText.ty) rfl (hE.pe i))))) ys_nil))))
theorem sc_Bounds_count_pair : FnScope ["self"] ["self"] (defScope s_Bounds_count_pair) := ⟨rfl, rfl, rfl, by decide +kernel, rfl, by decide +kernel, by decide +kernel⟩
def mb_Bounds_count_pair : En → Option Fy :=
    (mSeqY
    (yOf (mFl (mAugF 0 "pairs" (mC (.int 1)))))
    (mIfY (zOf (mTst (mBin dGt (mFld 0 "pairs") (mC c_MOST_PAIRS)))) (yOf (fun env => ((mC (.str "too many pairs")) env).bind fun _ => some (.xc "NoText" env))) (fun env => some (.nx env))))
def fs_Bounds_count_pair : List PyData → List PyData → Option ((PyData × List PyData) ⊕ Str) := runS 1 [1] mb_Bounds_count_pair
set_option maxHeartbeats 0 in
theorem ok_Bounds_count_pair {P : Program} {w : World} {K : PySem.W.Frag} {mg : Str → Option Value} {base : Heap} (T : Txt K mg w)  : FnOk P w K mg base (L2N.CX P w) (1) T.f_Bounds_count_pair T.fd_Bounds_count_pair ["self"] (spS K JJ mg [1] 0 fs_Bounds_count_pair) := by
  have F := defX_fam (P := P) (w := w) (K := K) (mg := mg) (base := base) (qual := "Bounds.count_pair") (sc := defScope s_Bounds_count_pair) (f := T.f_Bounds_count_pair) (j := 0) sc_Bounds_count_pair.nd
  have hS := fun i => (rfl : (defX P w K mg base ["self"] "Bounds.count_pair" (defScope s_Bounds_count_pair) T.f_Bounds_count_pair (0) i).env.scope = defScope s_Bounds_count_pair)
  exact fn_S (M := mP [0, 5000] 1 rfl) T.F_Bounds_count_pair sc_Bounds_count_pair (frS rfl rfl rfl rfl) rfl (fun as hl =>
      (ys_cons
      (y_of (x_of (s_augF F 0 1 "pairs" d_int T.cl_Bounds T.na_Bounds_pairs (T.fk_ _ _))))
      (ys_one
      (y_if (zt_of (t_cmp (fun _ => op_gt) opd_gt (q_of (d_fld F 0 1 "pairs" T.cl_Bounds T.na_Bounds_pairs (T.fk_ _ _))) (q_of (d_glob T.dp_MOST_PAIRS (fun _ => pe_glob rfl T.mg_MOST_PAIRS T.rl_MOST_PAIRS))))) (ys_one
      (y_of (have hE := d_str; x_raiseA F T.mgc_NoText defX_tk hE (fun i => pmk_any PySem.F.excBase_ValueError T.er_NoText.xc T.mgc_NoText T.er_NoText.kc (raises_own T.er_NoText.bc T.ec_NoText.ty) rfl (hE.pe i))))) ys_nil))))
theorem sc_Bounds_enter_bracket : FnScope ["self"] ["self"] (defScope s_Bounds_enter_bracket) := ⟨rfl, rfl, rfl, by decide +kernel, rfl, by decide +kernel, by decide +kernel⟩
def mb_Bounds_enter_bracket : En → Option Fy :=
    (mSeqY
    (yOf (mFl (mAugF 0 "brackets" (mC (.int 1)))))
    (mIfY (zOf (mTst (mBin dGt (mFld 0 "brackets") (mC c_MOST_BRACKETS)))) (yOf (fun env => ((mC (.str "too many brackets within one another")) env).bind fun _ => some (.xc "NoText" env))) (fun env => some (.nx env))))
def fs_Bounds_enter_bracket : List PyData → List PyData → Option ((PyData × List PyData) ⊕ Str) := runS 1 [1] mb_Bounds_enter_bracket
set_option maxHeartbeats 0 in
theorem ok_Bounds_enter_bracket {P : Program} {w : World} {K : PySem.W.Frag} {mg : Str → Option Value} {base : Heap} (T : Txt K mg w)  : FnOk P w K mg base (L2N.CX P w) (1) T.f_Bounds_enter_bracket T.fd_Bounds_enter_bracket ["self"] (spS K JJ mg [1] 0 fs_Bounds_enter_bracket) := by
  have F := defX_fam (P := P) (w := w) (K := K) (mg := mg) (base := base) (qual := "Bounds.enter_bracket") (sc := defScope s_Bounds_enter_bracket) (f := T.f_Bounds_enter_bracket) (j := 0) sc_Bounds_enter_bracket.nd
  have hS := fun i => (rfl : (defX P w K mg base ["self"] "Bounds.enter_bracket" (defScope s_Bounds_enter_bracket) T.f_Bounds_enter_bracket (0) i).env.scope = defScope s_Bounds_enter_bracket)
  exact fn_S (M := mP [0, 5000] 1 rfl) T.F_Bounds_enter_bracket sc_Bounds_enter_bracket (frS rfl rfl rfl rfl) rfl (fun as hl =>
      (ys_cons
      (y_of (x_of (s_augF F 0 1 "brackets" d_int T.cl_Bounds T.na_Bounds_brackets (T.fk_ _ _))))
      (ys_one
      (y_if (zt_of (t_cmp (fun _ => op_gt) opd_gt (q_of (d_fld F 0 1 "brackets" T.cl_Bounds T.na_Bounds_brackets (T.fk_ _ _))) (q_of (d_glob T.dp_MOST_BRACKETS (fun _ => pe_glob rfl T.mg_MOST_BRACKETS T.rl_MOST_BRACKETS))))) (ys_one
      (y_of (have hE := d_str; x_raiseA F T.mgc_NoText defX_tk hE (fun i => pmk_any PySem.F.excBase_ValueError T.er_NoText.xc T.mgc_NoText T.er_NoText.kc (raises_own T.er_NoText.bc T.ec_NoText.ty) rfl (hE.pe i))))) ys_nil))))
theorem sc_Bounds_leave_bracket : FnScope ["self"] ["self"] (defScope s_Bounds_leave_bracket) := ⟨rfl, rfl, rfl, by decide +kernel, rfl, by decide +kernel, by decide +kernel⟩
def mb_Bounds_leave_bracket : En → Option Fy :=
    (yOf (mFl (mSubF 0 "brackets" (mC (.int 1)))))
def fs_Bounds_leave_bracket : List PyData → List PyData → Option ((PyData × List PyData) ⊕ Str) := runS 1 [1] mb_Bounds_leave_bracket
set_option maxHeartbeats 0 in
theorem ok_Bounds_leave_bracket {P : Program} {w : World} {K : PySem.W.Frag} {mg : Str → Option Value} {base : Heap} (T : Txt K mg w)  : FnOk P w K mg base (L2N.CX P w) (1) T.f_Bounds_leave_bracket T.fd_Bounds_leave_bracket ["self"] (spS K JJ mg [1] 0 fs_Bounds_leave_bracket) := by
  have F := defX_fam (P := P) (w := w) (K := K) (mg := mg) (base := base) (qual := "Bounds.leave_bracket") (sc := defScope s_Bounds_leave_bracket) (f := T.f_Bounds_leave_bracket) (j := 0) sc_Bounds_leave_bracket.nd
  have hS := fun i => (rfl : (defX P w K mg base ["self"] "Bounds.leave_bracket" (defScope s_Bounds_leave_bracket) T.f_Bounds_leave_bracket (0) i).env.scope = defScope s_Bounds_leave_bracket)
  exact fn_S (M := mP [0, 5000] 1 rfl) T.F_Bounds_leave_bracket sc_Bounds_leave_bracket (frS rfl rfl rfl rfl) rfl (fun as hl =>
      (ys_one
      (y_of (x_of (s_subF F 0 1 "brackets" d_int T.cl_Bounds T.na_Bounds_brackets (T.fk_ _ _))))))
theorem sc_Bounds_enter_has : FnScope ["self"] ["self"] (defScope s_Bounds_enter_has) := ⟨rfl, rfl, rfl, by decide +kernel, rfl, by decide +kernel, by decide +kernel⟩
def mb_Bounds_enter_has : En → Option Fy :=
    (mSeqY
    (mIfY (zOf (mTru (mFld 0 "within_has"))) (yOf (fun env => ((mC (.str "a has within a has")) env).bind fun _ => some (.xc "NoText" env))) (fun env => some (.nx env)))
    (yOf (mFl (mPutF 0 "within_has" (mC (.bool true))))))
def fs_Bounds_enter_has : List PyData → List PyData → Option ((PyData × List PyData) ⊕ Str) := runS 1 [1] mb_Bounds_enter_has
set_option maxHeartbeats 0 in
theorem ok_Bounds_enter_has {P : Program} {w : World} {K : PySem.W.Frag} {mg : Str → Option Value} {base : Heap} (T : Txt K mg w)  : FnOk P w K mg base (L2N.CX P w) (1) T.f_Bounds_enter_has T.fd_Bounds_enter_has ["self"] (spS K JJ mg [1] 0 fs_Bounds_enter_has) := by
  have F := defX_fam (P := P) (w := w) (K := K) (mg := mg) (base := base) (qual := "Bounds.enter_has") (sc := defScope s_Bounds_enter_has) (f := T.f_Bounds_enter_has) (j := 0) sc_Bounds_enter_has.nd
  have hS := fun i => (rfl : (defX P w K mg base ["self"] "Bounds.enter_has" (defScope s_Bounds_enter_has) T.f_Bounds_enter_has (0) i).env.scope = defScope s_Bounds_enter_has)
  exact fn_S (M := mP [0, 5000] 1 rfl) T.F_Bounds_enter_has sc_Bounds_enter_has (frS rfl rfl rfl rfl) rfl (fun as hl =>
      (ys_cons
      (y_if (zt_of (t_tru F (q_of (d_fld F 0 1 "within_has" T.cl_Bounds T.na_Bounds_within_has (T.fk_ _ _))))) (ys_one
      (y_of (have hE := d_str; x_raiseA F T.mgc_NoText defX_tk hE (fun i => pmk_any PySem.F.excBase_ValueError T.er_NoText.xc T.mgc_NoText T.er_NoText.kc (raises_own T.er_NoText.bc T.ec_NoText.ty) rfl (hE.pe i))))) ys_nil)
      (ys_one
      (y_of (x_of (s_putF F 0 1 "within_has" d_bl T.cl_Bounds T.na_Bounds_within_has (T.fk_ _ _)))))))
theorem sc_Bounds_leave_has : FnScope ["self"] ["self"] (defScope s_Bounds_leave_has) := ⟨rfl, rfl, rfl, by decide +kernel, rfl, by decide +kernel, by decide +kernel⟩
def mb_Bounds_leave_has : En → Option Fy :=
    (yOf (mFl (mPutF 0 "within_has" (mC (.bool false)))))
def fs_Bounds_leave_has : List PyData → List PyData → Option ((PyData × List PyData) ⊕ Str) := runS 1 [1] mb_Bounds_leave_has
set_option maxHeartbeats 0 in
theorem ok_Bounds_leave_has {P : Program} {w : World} {K : PySem.W.Frag} {mg : Str → Option Value} {base : Heap} (T : Txt K mg w)  : FnOk P w K mg base (L2N.CX P w) (1) T.f_Bounds_leave_has T.fd_Bounds_leave_has ["self"] (spS K JJ mg [1] 0 fs_Bounds_leave_has) := by
  have F := defX_fam (P := P) (w := w) (K := K) (mg := mg) (base := base) (qual := "Bounds.leave_has") (sc := defScope s_Bounds_leave_has) (f := T.f_Bounds_leave_has) (j := 0) sc_Bounds_leave_has.nd
  have hS := fun i => (rfl : (defX P w K mg base ["self"] "Bounds.leave_has" (defScope s_Bounds_leave_has) T.f_Bounds_leave_has (0) i).env.scope = defScope s_Bounds_leave_has)
  exact fn_S (M := mP [0, 5000] 1 rfl) T.F_Bounds_leave_has sc_Bounds_leave_has (frS rfl rfl rfl rfl) rfl (fun as hl =>
      (ys_one
      (y_of (x_of (s_putF F 0 1 "within_has" d_bl T.cl_Bounds T.na_Bounds_within_has (T.fk_ _ _))))))
theorem sc_are_unlike : FnScope ["names"] ["names"] (defScope s_are_unlike) := ⟨rfl, rfl, rfl, by decide +kernel, rfl, by decide +kernel, by decide +kernel⟩
def mb_are_unlike : En → Option Fl :=
    (mRet (mBin dEq (mSetOf sizeT (mVar 0)) (mCB bLen (mCons (mVar 0) mNil))))
def fm_are_unlike : List PyData → Option PyData := runB 1 mb_are_unlike
theorem ok_are_unlike {P : Program} {w : World} {K : PySem.W.Frag} {mg : Str → Option Value} {base : Heap} (T : Txt K mg w)  : FnOk P w K mg base CX0 (1) T.f_are_unlike T.fd_are_unlike ["names"] (spD K JJ 1 fm_are_unlike) := by
  have F := defF_fam (P := P) (w := w) (K := K) (mg := mg) (base := base) (qual := "are_unlike") (sc := defScope s_are_unlike) (f := T.f_are_unlike) (j := 0) sc_are_unlike.nd
  have hS := fun i => (rfl : (defF P w K mg base ["names"] "are_unlike" (defScope s_are_unlike) T.f_are_unlike (0) i).env.scope = defScope s_are_unlike)
  exact fn_data (M := mJ []) T.F_are_unlike sc_are_unlike (mmAll rfl)
      (ss_one
      (s_ret (d_cmp (fun i => op_eqK (F.hK i) (F.u64 i)) opd_eq (q_of (d_lenT F (q_of (d_var 0)) (fun _ => T.n_len) (fun _ => T.n_set))) (q_of (d_cb (fun i => cr_len (F.hK i)) crd_len (fun _ => T.n_len) (by decide +kernel) (b_cons (q_of (d_var 0)) b_nil))))))
theorem sc_take_and : FnScope ["reader", "bounds", "condition"] ["reader", "bounds"] (defScope s_take_and) := ⟨rfl, rfl, rfl, by decide +kernel, rfl, by decide +kernel, by decide +kernel⟩
def lt1_take_and (self : List PyData → List PyData → Option ((PyData × List PyData) ⊕ Str)) : En → Option (Zx Bool) :=
    (mTruZ (mMeth "takes" 0 0 1 fs_Reader_takes (mConsZ (zOf (mC (.str "and"))) mNilZ)))
def lb1_take_and (self : List PyData → List PyData → Option ((PyData × List PyData) ⊕ Str)) : En → Option Fy :=
    (mSeqY
    (mExprY (mMeth "count_part" 1 1 0 fs_Bounds_count_part mNilZ))
    (mAsgY (mTupZ (mConsZ (zOf (mC (.str "and"))) (mConsZ (zOf (mVar 2)) (mConsZ (mCS [(0, 0), (1, 1)] 0 self mNilZ) mNilZ)))) 2))
def mb_take_and (self : List PyData → List PyData → Option ((PyData × List PyData) ⊕ Str)) : En → Option Fy :=
    (mSeqY
    (mAsgY (mCS [(0, 0), (1, 1)] 0 self mNilZ) 2)
    (mSeqY
    (whileY (lt1_take_and self) (lb1_take_and self) 12)
    (mRetY (zOf (mVar 2)))))
def fs_take_and (self : List PyData → List PyData → Option ((PyData × List PyData) ⊕ Str)) : List PyData → List PyData → Option ((PyData × List PyData) ⊕ Str) := runS 3 [0, 1] (mb_take_and self)
set_option maxHeartbeats 0 in
theorem ok_take_and {P : Program} {w : World} {K : PySem.W.Frag} {mg : Str → Option Value} {base : Heap} (T : Txt K mg w) (G_Reader_takes : FnOk P w K mg base (L2N.CX P w) (2) T.f_Reader_takes T.fd_Reader_takes ["self", "word"] (spS K JJ mg [0] 1 fs_Reader_takes)) (G_Bounds_count_part : FnOk P w K mg base (L2N.CX P w) (1) T.f_Bounds_count_part T.fd_Bounds_count_part ["self"] (spS K JJ mg [1] 0 fs_Bounds_count_part)) {n : Nat} {self : List PyData → List PyData → Option ((PyData × List PyData) ⊕ Str)} (GS : FnOk P w K mg base (L2N.CX P w) (5 + 5 * n) T.f_take_alone T.fd_take_alone ["reader", "bounds"] (spS K JJ mg [0, 1] 0 self))  : FnOk P w K mg base (L2N.CX P w) (5 + 5 * n + 1) T.f_take_and T.fd_take_and ["reader", "bounds"] (spS K JJ mg [0, 1] 0 (fs_take_and self)) := by
  have F := defX_fam (P := P) (w := w) (K := K) (mg := mg) (base := base) (qual := "take_and") (sc := defScope s_take_and) (f := T.f_take_and) (j := 5 + 5 * n + 0) sc_take_and.nd
  have hS := fun i => (rfl : (defX P w K mg base ["reader", "bounds", "condition"] "take_and" (defScope s_take_and) T.f_take_and (5 + 5 * n + 0) i).env.scope = defScope s_take_and)
  exact fn_S (M := mP [0, 1, 4000, 5001] 2 rfl) T.F_take_and sc_take_and (frS rfl rfl rfl rfl) rfl (fun as hl =>
      (ys_cons
      (y_asg F 2 (z_call (is := [(0, 0), (1, 1)]) (n := 0) (fn := self) (fun j => pe_callS GS ((F.room j).mono (by omega)) rfl T.g_take_alone T.k_take_alone T.b_take_alone (fun σ => L2N.passAt (defX_tk j) σ) (pa_cons (pv 0) (pa_cons (pv 1) pa_nil))) snd_nilZ (okS rfl (by decide)) (fun _ h => h)))
      (ys_cons
      (y_while 12 (fun _ => PassesOwn.leaving) (zt_tru F (z_methA (i := 0) (c := 0) (n := 1) (fn := fs_Reader_takes) (fun _ => T.cl_Reader) (fun _ => T.me_Reader_takes) (fun _ => G_Reader_takes) (fun j => (F.room j).mono (by omega)) (fun _ => T.b_Reader_takes) defX_tk (za_cons (W := defW) (z_of d_str) za_nil) (okS rfl (by decide)) (fun _ h => h))) (ys_cons
      (y_expr (z_meth (i := 1) (c := 1) (n := 0) (m := "count_part") (fn := fs_Bounds_count_part) (fun j => pe_methE0 (pv 1) T.cl_Bounds T.me_Bounds_count_part G_Bounds_count_part ((F.room j).mono (by omega)) T.b_Bounds_count_part (fun σ => L2N.passAt (defX_tk j) σ)) snd_nilZ (okS rfl (by decide)) (fun _ h => h)))
      (ys_one
      (y_asg F 2 (z_tup (za_cons (W := defW) (z_of d_str) (za_cons (W := defW) (z_of (d_var 2)) (za_cons (W := defW) (z_call (is := [(0, 0), (1, 1)]) (n := 0) (fn := self) (fun j => pe_callS GS ((F.room j).mono (by omega)) rfl T.g_take_alone T.k_take_alone T.b_take_alone (fun σ => L2N.passAt (defX_tk j) σ) (pa_cons (pv 0) (pa_cons (pv 1) pa_nil))) snd_nilZ (okS rfl (by decide)) (fun _ h => h)) za_nil))))))))
      (ys_one
      (y_ret (z_of (d_var 2)))))))
theorem sc_take_or : FnScope ["reader", "bounds", "condition"] ["reader", "bounds"] (defScope s_take_or) := ⟨rfl, rfl, rfl, by decide +kernel, rfl, by decide +kernel, by decide +kernel⟩
def lt1_take_or (self : List PyData → List PyData → Option ((PyData × List PyData) ⊕ Str)) : En → Option (Zx Bool) :=
    (mTruZ (mMeth "takes" 0 0 1 fs_Reader_takes (mConsZ (zOf (mC (.str "or"))) mNilZ)))
def lb1_take_or (self : List PyData → List PyData → Option ((PyData × List PyData) ⊕ Str)) : En → Option Fy :=
    (mSeqY
    (mExprY (mMeth "count_part" 1 1 0 fs_Bounds_count_part mNilZ))
    (mAsgY (mTupZ (mConsZ (zOf (mC (.str "or"))) (mConsZ (zOf (mVar 2)) (mConsZ (mCS [(0, 0), (1, 1)] 0 (fs_take_and self) mNilZ) mNilZ)))) 2))
def mb_take_or (self : List PyData → List PyData → Option ((PyData × List PyData) ⊕ Str)) : En → Option Fy :=
    (mSeqY
    (mAsgY (mCS [(0, 0), (1, 1)] 0 (fs_take_and self) mNilZ) 2)
    (mSeqY
    (whileY (lt1_take_or self) (lb1_take_or self) 12)
    (mRetY (zOf (mVar 2)))))
def fs_take_or (self : List PyData → List PyData → Option ((PyData × List PyData) ⊕ Str)) : List PyData → List PyData → Option ((PyData × List PyData) ⊕ Str) := runS 3 [0, 1] (mb_take_or self)
set_option maxHeartbeats 0 in
theorem ok_take_or {P : Program} {w : World} {K : PySem.W.Frag} {mg : Str → Option Value} {base : Heap} (T : Txt K mg w) (G_Reader_takes : FnOk P w K mg base (L2N.CX P w) (2) T.f_Reader_takes T.fd_Reader_takes ["self", "word"] (spS K JJ mg [0] 1 fs_Reader_takes)) (G_Bounds_count_part : FnOk P w K mg base (L2N.CX P w) (1) T.f_Bounds_count_part T.fd_Bounds_count_part ["self"] (spS K JJ mg [1] 0 fs_Bounds_count_part)) {n : Nat} {self : List PyData → List PyData → Option ((PyData × List PyData) ⊕ Str)} (GS : FnOk P w K mg base (L2N.CX P w) (5 + 5 * n) T.f_take_alone T.fd_take_alone ["reader", "bounds"] (spS K JJ mg [0, 1] 0 self)) (G_take_and : FnOk P w K mg base (L2N.CX P w) (5 + 5 * n + 1) T.f_take_and T.fd_take_and ["reader", "bounds"] (spS K JJ mg [0, 1] 0 (fs_take_and self))) : FnOk P w K mg base (L2N.CX P w) (5 + 5 * n + 2) T.f_take_or T.fd_take_or ["reader", "bounds"] (spS K JJ mg [0, 1] 0 (fs_take_or self)) := by
  have F := defX_fam (P := P) (w := w) (K := K) (mg := mg) (base := base) (qual := "take_or") (sc := defScope s_take_or) (f := T.f_take_or) (j := 5 + 5 * n + 1) sc_take_or.nd
  have hS := fun i => (rfl : (defX P w K mg base ["reader", "bounds", "condition"] "take_or" (defScope s_take_or) T.f_take_or (5 + 5 * n + 1) i).env.scope = defScope s_take_or)
  exact fn_S (M := mP [0, 1, 4000, 5001] 2 rfl) T.F_take_or sc_take_or (frS rfl rfl rfl rfl) rfl (fun as hl =>
      (ys_cons
      (y_asg F 2 (z_call (is := [(0, 0), (1, 1)]) (n := 0) (fn := (fs_take_and self)) (fun j => pe_callS G_take_and ((F.room j).mono (by omega)) rfl T.g_take_and T.k_take_and T.b_take_and (fun σ => L2N.passAt (defX_tk j) σ) (pa_cons (pv 0) (pa_cons (pv 1) pa_nil))) snd_nilZ (okS rfl (by decide)) (fun _ h => h)))
      (ys_cons
      (y_while 12 (fun _ => PassesOwn.leaving) (zt_tru F (z_methA (i := 0) (c := 0) (n := 1) (fn := fs_Reader_takes) (fun _ => T.cl_Reader) (fun _ => T.me_Reader_takes) (fun _ => G_Reader_takes) (fun j => (F.room j).mono (by omega)) (fun _ => T.b_Reader_takes) defX_tk (za_cons (W := defW) (z_of d_str) za_nil) (okS rfl (by decide)) (fun _ h => h))) (ys_cons
      (y_expr (z_meth (i := 1) (c := 1) (n := 0) (m := "count_part") (fn := fs_Bounds_count_part) (fun j => pe_methE0 (pv 1) T.cl_Bounds T.me_Bounds_count_part G_Bounds_count_part ((F.room j).mono (by omega)) T.b_Bounds_count_part (fun σ => L2N.passAt (defX_tk j) σ)) snd_nilZ (okS rfl (by decide)) (fun _ h => h)))
      (ys_one
      (y_asg F 2 (z_tup (za_cons (W := defW) (z_of d_str) (za_cons (W := defW) (z_of (d_var 2)) (za_cons (W := defW) (z_call (is := [(0, 0), (1, 1)]) (n := 0) (fn := (fs_take_and self)) (fun j => pe_callS G_take_and ((F.room j).mono (by omega)) rfl T.g_take_and T.k_take_and T.b_take_and (fun σ => L2N.passAt (defX_tk j) σ) (pa_cons (pv 0) (pa_cons (pv 1) pa_nil))) snd_nilZ (okS rfl (by decide)) (fun _ h => h)) za_nil))))))))
      (ys_one
      (y_ret (z_of (d_var 2)))))))
theorem sc_take_about_column : FnScope ["reader", "column", "word"] ["reader"] (defScope s_take_about_column) := ⟨rfl, rfl, rfl, by decide +kernel, rfl, by decide +kernel, by decide +kernel⟩
def mb_take_about_column : En → Option Fy :=
    (mSeqY
    (mAsgY (mMeth "take_name" 0 0 0 fs_Reader_take_name mNilZ) 1)
    (mSeqY
    (mAsgY (mMeth "take" 0 0 0 fs_Reader_take mNilZ) 2)
    (mSeqY
    (mIfY (zOf (mTst (mBin (dIn false) (mVar 2) (mTup (mCons (mC (.str "mine")) (mCons (mC (.str "empty")) (mCons (mC (.str "loud")) mNil))))))) (mRetY (zOf (mTup (mCons (mVar 2) (mCons (mVar 1) mNil))))) (fun env => some (.nx env)))
    (mSeqY
    (mIfY (zOf (mTst (mBin dEq (mVar 2) (mC (.str "<"))))) (mRetY (mTupZ (mConsZ (zOf (mC (.str "below"))) (mConsZ (zOf (mVar 1)) (mConsZ (mMeth "take_number" 0 0 1 fs_Reader_take_number (mConsZ (zOf (mUn (getTab tab_MOST_VALUES) (mC (.str "below")))) mNilZ)) mNilZ))))) (fun env => some (.nx env)))
    (mSeqY
    (mIfY (zOf (mTst (mBin dNe (mVar 2) (mC (.str "="))))) (yOf (fun env => ((mC (.str "no word that may stand behind a column")) env).bind fun _ => some (.xc "NoText" env))) (fun env => some (.nx env)))
    (mSeqY
    (mIfY (mTruZ (mDataZ 1 fm_is_name (mConsZ (mMeth "ahead" 0 0 0 fs_Reader_ahead mNilZ) mNilZ))) (mRetY (mTupZ (mConsZ (zOf (mC (.str "same"))) (mConsZ (zOf (mVar 1)) (mConsZ (mMeth "take_name" 0 0 0 fs_Reader_take_name mNilZ) mNilZ))))) (fun env => some (.nx env)))
    (mRetY (mTupZ (mConsZ (zOf (mC (.str "is"))) (mConsZ (zOf (mVar 1)) (mConsZ (mMeth "take_number" 0 0 1 fs_Reader_take_number (mConsZ (zOf (mUn (getTab tab_MOST_VALUES) (mC (.str "is")))) mNilZ)) mNilZ)))))))))))
def fs_take_about_column : List PyData → List PyData → Option ((PyData × List PyData) ⊕ Str) := runS 3 [0] mb_take_about_column
set_option maxHeartbeats 0 in
theorem ok_take_about_column {P : Program} {w : World} {K : PySem.W.Frag} {mg : Str → Option Value} {base : Heap} (T : Txt K mg w) (G_Reader_take_number : FnOk P w K mg base (L2N.CX P w) (3) T.f_Reader_take_number T.fd_Reader_take_number ["self", "most"] (spS K JJ mg [0] 1 fs_Reader_take_number)) (G_is_name : FnOk P w K mg base CX0 (1) T.f_is_name T.fd_is_name ["thing"] (spD K JJ 1 fm_is_name)) (G_Reader_ahead : FnOk P w K mg base (L2N.CX P w) (1) T.f_Reader_ahead T.fd_Reader_ahead ["self"] (spS K JJ mg [0] 0 fs_Reader_ahead)) (G_Reader_take_name : FnOk P w K mg base (L2N.CX P w) (3) T.f_Reader_take_name T.fd_Reader_take_name ["self"] (spS K JJ mg [0] 0 fs_Reader_take_name)) (G_Reader_take : FnOk P w K mg base (L2N.CX P w) (2) T.f_Reader_take T.fd_Reader_take ["self"] (spS K JJ mg [0] 0 fs_Reader_take)) : FnOk P w K mg base (L2N.CX P w) (4) T.f_take_about_column T.fd_take_about_column ["reader"] (spS K JJ mg [0] 0 fs_take_about_column) := by
  have F := defX_fam (P := P) (w := w) (K := K) (mg := mg) (base := base) (qual := "take_about_column") (sc := defScope s_take_about_column) (f := T.f_take_about_column) (j := 3) sc_take_about_column.nd
  have hS := fun i => (rfl : (defX P w K mg base ["reader", "column", "word"] "take_about_column" (defScope s_take_about_column) T.f_take_about_column (3) i).env.scope = defScope s_take_about_column)
  exact fn_S (M := mP [0, 4000] 1 rfl) T.F_take_about_column sc_take_about_column (frS rfl rfl rfl rfl) rfl (fun as hl =>
      (ys_cons
      (y_asg F 1 (z_meth (i := 0) (c := 0) (n := 0) (m := "take_name") (fn := fs_Reader_take_name) (fun j => pe_methE0 (pv 0) T.cl_Reader T.me_Reader_take_name G_Reader_take_name ((F.room j).mono (by omega)) T.b_Reader_take_name (fun σ => L2N.passAt (defX_tk j) σ)) snd_nilZ (okS rfl (by decide)) (fun _ h => h)))
      (ys_cons
      (y_asg F 2 (z_meth (i := 0) (c := 0) (n := 0) (m := "take") (fn := fs_Reader_take) (fun j => pe_methE0 (pv 0) T.cl_Reader T.me_Reader_take G_Reader_take ((F.room j).mono (by omega)) T.b_Reader_take (fun σ => L2N.passAt (defX_tk j) σ)) snd_nilZ (okS rfl (by decide)) (fun _ h => h)))
      (ys_cons
      (y_if (zt_of (t_cmp (fun i => op_ins (F.hK i) (F.u65 i)) (opd_in false) (q_of (d_var 2)) (q_of (d_tup (a_cons d_str (a_cons d_str (a_cons d_str a_nil))))))) (ys_one
      (y_ret (z_of (d_tup (a_cons (d_var 2) (a_cons (d_var 1) a_nil)))))) ys_nil)
      (ys_cons
      (y_if (zt_of (t_cmp (fun i => op_eqK (F.hK i) (F.u64 i)) opd_eq (q_of (d_var 2)) (q_of d_str))) (ys_one
      (y_ret (z_tup (za_cons (W := defW) (z_of d_str) (za_cons (W := defW) (z_of (d_var 1)) (za_cons (W := defW) (z_methA (i := 0) (c := 0) (n := 1) (fn := fs_Reader_take_number) (fun _ => T.cl_Reader) (fun _ => T.me_Reader_take_number) (fun _ => G_Reader_take_number) (fun j => (F.room j).mono (by omega)) (fun _ => T.b_Reader_take_number) defX_tk (za_cons (W := defW) (z_of (d_getK F T.kd_MOST_VALUES d_str (fun _ => pe_glob rfl T.mg_MOST_VALUES rfl))) za_nil) (okS rfl (by decide)) (fun _ h => h)) za_nil)))))) ys_nil)
      (ys_cons
      (y_if (zt_of (t_cmp (fun i => op_neK (F.hK i) (F.u64 i)) opd_ne (q_of (d_var 2)) (q_of d_str))) (ys_one
      (y_of (have hE := d_str; x_raiseA F T.mgc_NoText defX_tk hE (fun i => pmk_any PySem.F.excBase_ValueError T.er_NoText.xc T.mgc_NoText T.er_NoText.kc (raises_own T.er_NoText.bc T.ec_NoText.ty) rfl (hE.pe i))))) ys_nil)
      (ys_cons
      (y_if (zt_tru F (z_dataA (n := 1) (fn := fm_is_name) (fun _ => G_is_name) (fun j => (F.room j).mono (by omega)) (fun _ => T.g_is_name) (fun _ => T.k_is_name) (fun _ => T.b_is_name) (za_cons (W := defW) (z_meth (i := 0) (c := 0) (n := 0) (m := "ahead") (fn := fs_Reader_ahead) (fun j => pe_methE0 (pv 0) T.cl_Reader T.me_Reader_ahead G_Reader_ahead ((F.room j).mono (by omega)) T.b_Reader_ahead (fun σ => L2N.passAt (defX_tk j) σ)) snd_nilZ (okS rfl (by decide)) (fun _ h => h)) za_nil))) (ys_one
      (y_ret (z_tup (za_cons (W := defW) (z_of d_str) (za_cons (W := defW) (z_of (d_var 1)) (za_cons (W := defW) (z_meth (i := 0) (c := 0) (n := 0) (m := "take_name") (fn := fs_Reader_take_name) (fun j => pe_methE0 (pv 0) T.cl_Reader T.me_Reader_take_name G_Reader_take_name ((F.room j).mono (by omega)) T.b_Reader_take_name (fun σ => L2N.passAt (defX_tk j) σ)) snd_nilZ (okS rfl (by decide)) (fun _ h => h)) za_nil)))))) ys_nil)
      (ys_one
      (y_ret (z_tup (za_cons (W := defW) (z_of d_str) (za_cons (W := defW) (z_of (d_var 1)) (za_cons (W := defW) (z_methA (i := 0) (c := 0) (n := 1) (fn := fs_Reader_take_number) (fun _ => T.cl_Reader) (fun _ => T.me_Reader_take_number) (fun _ => G_Reader_take_number) (fun j => (F.room j).mono (by omega)) (fun _ => T.b_Reader_take_number) defX_tk (za_cons (W := defW) (z_of (d_getK F T.kd_MOST_VALUES d_str (fun _ => pe_glob rfl T.mg_MOST_VALUES rfl))) za_nil) (okS rfl (by decide)) (fun _ h => h)) za_nil)))))))))))))
theorem sc_take_has : FnScope ["reader", "bounds", "table", "column", "other", "condition"] ["reader", "bounds"] (defScope s_take_has) := ⟨rfl, rfl, rfl, by decide +kernel, rfl, by decide +kernel, by decide +kernel⟩
def mb_take_has (self : List PyData → List PyData → Option ((PyData × List PyData) ⊕ Str)) : En → Option Fy :=
    (mSeqY
    (mExprY (mMeth "enter_has" 1 1 0 fs_Bounds_enter_has mNilZ))
    (mSeqY
    (mAsgY (mMeth "take_name" 0 0 0 fs_Reader_take_name mNilZ) 2)
    (mSeqY
    (mAsgY (mMeth "take_name" 0 0 0 fs_Reader_take_name mNilZ) 3)
    (mSeqY
    (mAsgY (mMeth "take_name" 0 0 0 fs_Reader_take_name mNilZ) 4)
    (mSeqY
    (mExprY (mMeth "take_this" 0 0 1 fs_Reader_take_this (mConsZ (zOf (mC (.str "("))) mNilZ)))
    (mSeqY
    (mAsgY (mCS [(0, 0), (1, 1)] 0 (fs_take_or self) mNilZ) 5)
    (mSeqY
    (mExprY (mMeth "take_this" 0 0 1 fs_Reader_take_this (mConsZ (zOf (mC (.str ")"))) mNilZ)))
    (mSeqY
    (mExprY (mMeth "leave_has" 1 1 0 fs_Bounds_leave_has mNilZ))
    (mRetY (zOf (mTup (mCons (mC (.str "has")) (mCons (mVar 2) (mCons (mVar 3) (mCons (mVar 4) (mCons (mVar 5) mNil))))))))))))))))
def fs_take_has (self : List PyData → List PyData → Option ((PyData × List PyData) ⊕ Str)) : List PyData → List PyData → Option ((PyData × List PyData) ⊕ Str) := runS 6 [0, 1] (mb_take_has self)
set_option maxHeartbeats 0 in
theorem ok_take_has {P : Program} {w : World} {K : PySem.W.Frag} {mg : Str → Option Value} {base : Heap} (T : Txt K mg w) (G_Bounds_leave_has : FnOk P w K mg base (L2N.CX P w) (1) T.f_Bounds_leave_has T.fd_Bounds_leave_has ["self"] (spS K JJ mg [1] 0 fs_Bounds_leave_has)) (G_Reader_take_this : FnOk P w K mg base (L2N.CX P w) (3) T.f_Reader_take_this T.fd_Reader_take_this ["self", "word"] (spS K JJ mg [0] 1 fs_Reader_take_this)) (G_Reader_take_name : FnOk P w K mg base (L2N.CX P w) (3) T.f_Reader_take_name T.fd_Reader_take_name ["self"] (spS K JJ mg [0] 0 fs_Reader_take_name)) (G_Bounds_enter_has : FnOk P w K mg base (L2N.CX P w) (1) T.f_Bounds_enter_has T.fd_Bounds_enter_has ["self"] (spS K JJ mg [1] 0 fs_Bounds_enter_has)) {n : Nat} {self : List PyData → List PyData → Option ((PyData × List PyData) ⊕ Str)} (GS : FnOk P w K mg base (L2N.CX P w) (5 + 5 * n) T.f_take_alone T.fd_take_alone ["reader", "bounds"] (spS K JJ mg [0, 1] 0 self)) (G_take_or : FnOk P w K mg base (L2N.CX P w) (5 + 5 * n + 2) T.f_take_or T.fd_take_or ["reader", "bounds"] (spS K JJ mg [0, 1] 0 (fs_take_or self))) : FnOk P w K mg base (L2N.CX P w) (5 + 5 * n + 4) T.f_take_has T.fd_take_has ["reader", "bounds"] (spS K JJ mg [0, 1] 0 (fs_take_has self)) := by
  have F := defX_fam (P := P) (w := w) (K := K) (mg := mg) (base := base) (qual := "take_has") (sc := defScope s_take_has) (f := T.f_take_has) (j := 5 + 5 * n + 3) sc_take_has.nd
  have hS := fun i => (rfl : (defX P w K mg base ["reader", "bounds", "table", "column", "other", "condition"] "take_has" (defScope s_take_has) T.f_take_has (5 + 5 * n + 3) i).env.scope = defScope s_take_has)
  exact fn_S (M := mP [0, 1, 4000, 5001] 2 rfl) T.F_take_has sc_take_has (frS rfl rfl rfl rfl) rfl (fun as hl =>
      (ys_cons
      (y_expr (z_meth (i := 1) (c := 1) (n := 0) (m := "enter_has") (fn := fs_Bounds_enter_has) (fun j => pe_methE0 (pv 1) T.cl_Bounds T.me_Bounds_enter_has G_Bounds_enter_has ((F.room j).mono (by omega)) T.b_Bounds_enter_has (fun σ => L2N.passAt (defX_tk j) σ)) snd_nilZ (okS rfl (by decide)) (fun _ h => h)))
      (ys_cons
      (y_asg F 2 (z_meth (i := 0) (c := 0) (n := 0) (m := "take_name") (fn := fs_Reader_take_name) (fun j => pe_methE0 (pv 0) T.cl_Reader T.me_Reader_take_name G_Reader_take_name ((F.room j).mono (by omega)) T.b_Reader_take_name (fun σ => L2N.passAt (defX_tk j) σ)) snd_nilZ (okS rfl (by decide)) (fun _ h => h)))
      (ys_cons
      (y_asg F 3 (z_meth (i := 0) (c := 0) (n := 0) (m := "take_name") (fn := fs_Reader_take_name) (fun j => pe_methE0 (pv 0) T.cl_Reader T.me_Reader_take_name G_Reader_take_name ((F.room j).mono (by omega)) T.b_Reader_take_name (fun σ => L2N.passAt (defX_tk j) σ)) snd_nilZ (okS rfl (by decide)) (fun _ h => h)))
      (ys_cons
      (y_asg F 4 (z_meth (i := 0) (c := 0) (n := 0) (m := "take_name") (fn := fs_Reader_take_name) (fun j => pe_methE0 (pv 0) T.cl_Reader T.me_Reader_take_name G_Reader_take_name ((F.room j).mono (by omega)) T.b_Reader_take_name (fun σ => L2N.passAt (defX_tk j) σ)) snd_nilZ (okS rfl (by decide)) (fun _ h => h)))
      (ys_cons
      (y_expr (z_methA (i := 0) (c := 0) (n := 1) (fn := fs_Reader_take_this) (fun _ => T.cl_Reader) (fun _ => T.me_Reader_take_this) (fun _ => G_Reader_take_this) (fun j => (F.room j).mono (by omega)) (fun _ => T.b_Reader_take_this) defX_tk (za_cons (W := defW) (z_of d_str) za_nil) (okS rfl (by decide)) (fun _ h => h)))
      (ys_cons
      (y_asg F 5 (z_call (is := [(0, 0), (1, 1)]) (n := 0) (fn := (fs_take_or self)) (fun j => pe_callS G_take_or ((F.room j).mono (by omega)) rfl T.g_take_or T.k_take_or T.b_take_or (fun σ => L2N.passAt (defX_tk j) σ) (pa_cons (pv 0) (pa_cons (pv 1) pa_nil))) snd_nilZ (okS rfl (by decide)) (fun _ h => h)))
      (ys_cons
      (y_expr (z_methA (i := 0) (c := 0) (n := 1) (fn := fs_Reader_take_this) (fun _ => T.cl_Reader) (fun _ => T.me_Reader_take_this) (fun _ => G_Reader_take_this) (fun j => (F.room j).mono (by omega)) (fun _ => T.b_Reader_take_this) defX_tk (za_cons (W := defW) (z_of d_str) za_nil) (okS rfl (by decide)) (fun _ h => h)))
      (ys_cons
      (y_expr (z_meth (i := 1) (c := 1) (n := 0) (m := "leave_has") (fn := fs_Bounds_leave_has) (fun j => pe_methE0 (pv 1) T.cl_Bounds T.me_Bounds_leave_has G_Bounds_leave_has ((F.room j).mono (by omega)) T.b_Bounds_leave_has (fun σ => L2N.passAt (defX_tk j) σ)) snd_nilZ (okS rfl (by decide)) (fun _ h => h)))
      (ys_one
      (y_ret (z_of (d_tup (a_cons d_str (a_cons (d_var 2) (a_cons (d_var 3) (a_cons (d_var 4) (a_cons (d_var 5) a_nil))))))))))))))))))
theorem sc_take_bracket : FnScope ["reader", "bounds", "condition"] ["reader", "bounds"] (defScope s_take_bracket) := ⟨rfl, rfl, rfl, by decide +kernel, rfl, by decide +kernel, by decide +kernel⟩
def mb_take_bracket (self : List PyData → List PyData → Option ((PyData × List PyData) ⊕ Str)) : En → Option Fy :=
    (mSeqY
    (mExprY (mMeth "enter_bracket" 1 1 0 fs_Bounds_enter_bracket mNilZ))
    (mSeqY
    (mAsgY (mCS [(0, 0), (1, 1)] 0 (fs_take_or self) mNilZ) 2)
    (mSeqY
    (mExprY (mMeth "take_this" 0 0 1 fs_Reader_take_this (mConsZ (zOf (mC (.str ")"))) mNilZ)))
    (mSeqY
    (mExprY (mMeth "leave_bracket" 1 1 0 fs_Bounds_leave_bracket mNilZ))
    (mRetY (zOf (mVar 2)))))))
def fs_take_bracket (self : List PyData → List PyData → Option ((PyData × List PyData) ⊕ Str)) : List PyData → List PyData → Option ((PyData × List PyData) ⊕ Str) := runS 3 [0, 1] (mb_take_bracket self)
set_option maxHeartbeats 0 in
theorem ok_take_bracket {P : Program} {w : World} {K : PySem.W.Frag} {mg : Str → Option Value} {base : Heap} (T : Txt K mg w) (G_Bounds_leave_bracket : FnOk P w K mg base (L2N.CX P w) (1) T.f_Bounds_leave_bracket T.fd_Bounds_leave_bracket ["self"] (spS K JJ mg [1] 0 fs_Bounds_leave_bracket)) (G_Reader_take_this : FnOk P w K mg base (L2N.CX P w) (3) T.f_Reader_take_this T.fd_Reader_take_this ["self", "word"] (spS K JJ mg [0] 1 fs_Reader_take_this)) (G_Bounds_enter_bracket : FnOk P w K mg base (L2N.CX P w) (1) T.f_Bounds_enter_bracket T.fd_Bounds_enter_bracket ["self"] (spS K JJ mg [1] 0 fs_Bounds_enter_bracket)) {n : Nat} {self : List PyData → List PyData → Option ((PyData × List PyData) ⊕ Str)} (GS : FnOk P w K mg base (L2N.CX P w) (5 + 5 * n) T.f_take_alone T.fd_take_alone ["reader", "bounds"] (spS K JJ mg [0, 1] 0 self)) (G_take_or : FnOk P w K mg base (L2N.CX P w) (5 + 5 * n + 2) T.f_take_or T.fd_take_or ["reader", "bounds"] (spS K JJ mg [0, 1] 0 (fs_take_or self))) : FnOk P w K mg base (L2N.CX P w) (5 + 5 * n + 3) T.f_take_bracket T.fd_take_bracket ["reader", "bounds"] (spS K JJ mg [0, 1] 0 (fs_take_bracket self)) := by
  have F := defX_fam (P := P) (w := w) (K := K) (mg := mg) (base := base) (qual := "take_bracket") (sc := defScope s_take_bracket) (f := T.f_take_bracket) (j := 5 + 5 * n + 2) sc_take_bracket.nd
  have hS := fun i => (rfl : (defX P w K mg base ["reader", "bounds", "condition"] "take_bracket" (defScope s_take_bracket) T.f_take_bracket (5 + 5 * n + 2) i).env.scope = defScope s_take_bracket)
  exact fn_S (M := mP [0, 1, 4000, 5001] 2 rfl) T.F_take_bracket sc_take_bracket (frS rfl rfl rfl rfl) rfl (fun as hl =>
      (ys_cons
      (y_expr (z_meth (i := 1) (c := 1) (n := 0) (m := "enter_bracket") (fn := fs_Bounds_enter_bracket) (fun j => pe_methE0 (pv 1) T.cl_Bounds T.me_Bounds_enter_bracket G_Bounds_enter_bracket ((F.room j).mono (by omega)) T.b_Bounds_enter_bracket (fun σ => L2N.passAt (defX_tk j) σ)) snd_nilZ (okS rfl (by decide)) (fun _ h => h)))
      (ys_cons
      (y_asg F 2 (z_call (is := [(0, 0), (1, 1)]) (n := 0) (fn := (fs_take_or self)) (fun j => pe_callS G_take_or ((F.room j).mono (by omega)) rfl T.g_take_or T.k_take_or T.b_take_or (fun σ => L2N.passAt (defX_tk j) σ) (pa_cons (pv 0) (pa_cons (pv 1) pa_nil))) snd_nilZ (okS rfl (by decide)) (fun _ h => h)))
      (ys_cons
      (y_expr (z_methA (i := 0) (c := 0) (n := 1) (fn := fs_Reader_take_this) (fun _ => T.cl_Reader) (fun _ => T.me_Reader_take_this) (fun _ => G_Reader_take_this) (fun j => (F.room j).mono (by omega)) (fun _ => T.b_Reader_take_this) defX_tk (za_cons (W := defW) (z_of d_str) za_nil) (okS rfl (by decide)) (fun _ h => h)))
      (ys_cons
      (y_expr (z_meth (i := 1) (c := 1) (n := 0) (m := "leave_bracket") (fn := fs_Bounds_leave_bracket) (fun j => pe_methE0 (pv 1) T.cl_Bounds T.me_Bounds_leave_bracket G_Bounds_leave_bracket ((F.room j).mono (by omega)) T.b_Bounds_leave_bracket (fun σ => L2N.passAt (defX_tk j) σ)) snd_nilZ (okS rfl (by decide)) (fun _ h => h)))
      (ys_one
      (y_ret (z_of (d_var 2)))))))))
theorem sc_take_alone : FnScope ["reader", "bounds"] ["reader", "bounds"] (defScope s_take_alone) := ⟨rfl, rfl, rfl, by decide +kernel, rfl, by decide +kernel, by decide +kernel⟩
def mb_take_alone (self : List PyData → List PyData → Option ((PyData × List PyData) ⊕ Str)) : En → Option Fy :=
    (mSeqY
    (mIfY (mTruZ (mMeth "takes" 0 0 1 fs_Reader_takes (mConsZ (zOf (mC (.str "("))) mNilZ))) (mRetY (mCS [(0, 0), (1, 1)] 0 (fs_take_bracket self) mNilZ)) (fun env => some (.nx env)))
    (mSeqY
    (mExprY (mMeth "count_part" 1 1 0 fs_Bounds_count_part mNilZ))
    (mSeqY
    (mIfY (mTruZ (mMeth "takes" 0 0 1 fs_Reader_takes (mConsZ (zOf (mC (.str "not"))) mNilZ))) (mRetY (mTupZ (mConsZ (zOf (mC (.str "not"))) (mConsZ (mCS [(0, 0), (1, 1)] 0 self mNilZ) mNilZ)))) (fun env => some (.nx env)))
    (mSeqY
    (mIfY (mTruZ (mMeth "takes" 0 0 1 fs_Reader_takes (mConsZ (zOf (mC (.str "has"))) mNilZ))) (mRetY (mCS [(0, 0), (1, 1)] 0 (fs_take_has self) mNilZ)) (fun env => some (.nx env)))
    (mSeqY
    (mIfY (mTruZ (mMeth "takes" 0 0 1 fs_Reader_takes (mConsZ (zOf (mC (.str "yes"))) mNilZ))) (mRetY (zOf (mTup (mCons (mC (.str "yes")) mNil)))) (fun env => some (.nx env)))
    (mRetY (mCS [(0, 0)] 0 fs_take_about_column mNilZ)))))))
def fs_take_alone : Nat → List PyData → List PyData → Option ((PyData × List PyData) ⊕ Str)
  | 0 => fun _ _ => none
  | n + 1 => runS 2 [0, 1] (mb_take_alone (fs_take_alone n))
set_option maxHeartbeats 0 in
theorem ok_take_alone {P : Program} {w : World} {K : PySem.W.Frag} {mg : Str → Option Value} {base : Heap} (T : Txt K mg w) (G_Reader_takes : FnOk P w K mg base (L2N.CX P w) (2) T.f_Reader_takes T.fd_Reader_takes ["self", "word"] (spS K JJ mg [0] 1 fs_Reader_takes)) (G_Bounds_count_part : FnOk P w K mg base (L2N.CX P w) (1) T.f_Bounds_count_part T.fd_Bounds_count_part ["self"] (spS K JJ mg [1] 0 fs_Bounds_count_part)) (G_Bounds_leave_bracket : FnOk P w K mg base (L2N.CX P w) (1) T.f_Bounds_leave_bracket T.fd_Bounds_leave_bracket ["self"] (spS K JJ mg [1] 0 fs_Bounds_leave_bracket)) (G_Reader_take_this : FnOk P w K mg base (L2N.CX P w) (3) T.f_Reader_take_this T.fd_Reader_take_this ["self", "word"] (spS K JJ mg [0] 1 fs_Reader_take_this)) (G_Bounds_enter_bracket : FnOk P w K mg base (L2N.CX P w) (1) T.f_Bounds_enter_bracket T.fd_Bounds_enter_bracket ["self"] (spS K JJ mg [1] 0 fs_Bounds_enter_bracket)) (G_Bounds_leave_has : FnOk P w K mg base (L2N.CX P w) (1) T.f_Bounds_leave_has T.fd_Bounds_leave_has ["self"] (spS K JJ mg [1] 0 fs_Bounds_leave_has)) (G_Reader_take_name : FnOk P w K mg base (L2N.CX P w) (3) T.f_Reader_take_name T.fd_Reader_take_name ["self"] (spS K JJ mg [0] 0 fs_Reader_take_name)) (G_Bounds_enter_has : FnOk P w K mg base (L2N.CX P w) (1) T.f_Bounds_enter_has T.fd_Bounds_enter_has ["self"] (spS K JJ mg [1] 0 fs_Bounds_enter_has)) (G_take_about_column : FnOk P w K mg base (L2N.CX P w) (4) T.f_take_about_column T.fd_take_about_column ["reader"] (spS K JJ mg [0] 0 fs_take_about_column)) : ∀ n, FnOk P w K mg base (L2N.CX P w) (5 + 5 * n) T.f_take_alone T.fd_take_alone ["reader", "bounds"] (spS K JJ mg [0, 1] 0 (fs_take_alone n))
  | 0 => fn_noneS T.F_take_alone sc_take_alone rfl (fun _ _ => rfl)
  | n + 1 => by
    have GS := ok_take_alone (P := P) (w := w) (base := base) T G_Reader_takes G_Bounds_count_part G_Bounds_leave_bracket G_Reader_take_this G_Bounds_enter_bracket G_Bounds_leave_has G_Reader_take_name G_Bounds_enter_has G_take_about_column n
    have G_take_and := ok_take_and T G_Reader_takes G_Bounds_count_part GS 
    have G_take_or := ok_take_or T G_Reader_takes G_Bounds_count_part GS G_take_and
    have G_take_bracket := ok_take_bracket T G_Bounds_leave_bracket G_Reader_take_this G_Bounds_enter_bracket GS G_take_or
    have G_take_has := ok_take_has T G_Bounds_leave_has G_Reader_take_this G_Reader_take_name G_Bounds_enter_has GS G_take_or
    rw [show 5 + 5 * (n + 1) = (5 + 5 * n + 4) + 1 by omega]
    have F := defX_fam (P := P) (w := w) (K := K) (mg := mg) (base := base) (qual := "take_alone") (sc := defScope s_take_alone) (f := T.f_take_alone) (j := 5 + 5 * n + 4) sc_take_alone.nd
    have hS := fun i => (rfl : (defX P w K mg base ["reader", "bounds"] "take_alone" (defScope s_take_alone) T.f_take_alone (5 + 5 * n + 4) i).env.scope = defScope s_take_alone)
    exact fn_S (M := mP [0, 1, 4000, 5001] 2 rfl) T.F_take_alone sc_take_alone (frS rfl rfl rfl rfl) rfl (fun as hl =>
      (ys_cons
      (y_if (zt_tru F (z_methA (i := 0) (c := 0) (n := 1) (fn := fs_Reader_takes) (fun _ => T.cl_Reader) (fun _ => T.me_Reader_takes) (fun _ => G_Reader_takes) (fun j => (F.room j).mono (by omega)) (fun _ => T.b_Reader_takes) defX_tk (za_cons (W := defW) (z_of d_str) za_nil) (okS rfl (by decide)) (fun _ h => h))) (ys_one
      (y_ret (z_call (is := [(0, 0), (1, 1)]) (n := 0) (fn := (fs_take_bracket (fs_take_alone n))) (fun j => pe_callS G_take_bracket ((F.room j).mono (by omega)) rfl T.g_take_bracket T.k_take_bracket T.b_take_bracket (fun σ => L2N.passAt (defX_tk j) σ) (pa_cons (pv 0) (pa_cons (pv 1) pa_nil))) snd_nilZ (okS rfl (by decide)) (fun _ h => h)))) ys_nil)
      (ys_cons
      (y_expr (z_meth (i := 1) (c := 1) (n := 0) (m := "count_part") (fn := fs_Bounds_count_part) (fun j => pe_methE0 (pv 1) T.cl_Bounds T.me_Bounds_count_part G_Bounds_count_part ((F.room j).mono (by omega)) T.b_Bounds_count_part (fun σ => L2N.passAt (defX_tk j) σ)) snd_nilZ (okS rfl (by decide)) (fun _ h => h)))
      (ys_cons
      (y_if (zt_tru F (z_methA (i := 0) (c := 0) (n := 1) (fn := fs_Reader_takes) (fun _ => T.cl_Reader) (fun _ => T.me_Reader_takes) (fun _ => G_Reader_takes) (fun j => (F.room j).mono (by omega)) (fun _ => T.b_Reader_takes) defX_tk (za_cons (W := defW) (z_of d_str) za_nil) (okS rfl (by decide)) (fun _ h => h))) (ys_one
      (y_ret (z_tup (za_cons (W := defW) (z_of d_str) (za_cons (W := defW) (z_call (is := [(0, 0), (1, 1)]) (n := 0) (fn := (fs_take_alone n)) (fun j => pe_callS GS ((F.room j).mono (by omega)) rfl T.g_take_alone T.k_take_alone T.b_take_alone (fun σ => L2N.passAt (defX_tk j) σ) (pa_cons (pv 0) (pa_cons (pv 1) pa_nil))) snd_nilZ (okS rfl (by decide)) (fun _ h => h)) za_nil))))) ys_nil)
      (ys_cons
      (y_if (zt_tru F (z_methA (i := 0) (c := 0) (n := 1) (fn := fs_Reader_takes) (fun _ => T.cl_Reader) (fun _ => T.me_Reader_takes) (fun _ => G_Reader_takes) (fun j => (F.room j).mono (by omega)) (fun _ => T.b_Reader_takes) defX_tk (za_cons (W := defW) (z_of d_str) za_nil) (okS rfl (by decide)) (fun _ h => h))) (ys_one
      (y_ret (z_call (is := [(0, 0), (1, 1)]) (n := 0) (fn := (fs_take_has (fs_take_alone n))) (fun j => pe_callS G_take_has ((F.room j).mono (by omega)) rfl T.g_take_has T.k_take_has T.b_take_has (fun σ => L2N.passAt (defX_tk j) σ) (pa_cons (pv 0) (pa_cons (pv 1) pa_nil))) snd_nilZ (okS rfl (by decide)) (fun _ h => h)))) ys_nil)
      (ys_cons
      (y_if (zt_tru F (z_methA (i := 0) (c := 0) (n := 1) (fn := fs_Reader_takes) (fun _ => T.cl_Reader) (fun _ => T.me_Reader_takes) (fun _ => G_Reader_takes) (fun j => (F.room j).mono (by omega)) (fun _ => T.b_Reader_takes) defX_tk (za_cons (W := defW) (z_of d_str) za_nil) (okS rfl (by decide)) (fun _ h => h))) (ys_one
      (y_ret (z_of (d_tup (a_cons d_str a_nil))))) ys_nil)
      (ys_one
      (y_ret (z_call (is := [(0, 0)]) (n := 0) (fn := fs_take_about_column) (fun j => pe_callS G_take_about_column ((F.room j).mono (by omega)) rfl T.g_take_about_column T.k_take_about_column T.b_take_about_column (fun σ => L2N.passAt (defX_tk j) σ) (pa_cons (pv 0) pa_nil)) snd_nilZ (okS rfl (by decide)) (fun _ h => h))))))))))
theorem sc_take_condition : FnScope ["reader"] ["reader"] (defScope s_take_condition) := ⟨rfl, rfl, rfl, by decide +kernel, rfl, by decide +kernel, by decide +kernel⟩
def mb_take_condition : En → Option Fy :=
    (mRetY (mCG [(0, 0)] 0 (fs_take_or (fs_take_alone 30)) (mMake 1 fs_Bounds___init (mConsZ (zOf (mC c_MOST_CONDITIONS)) mNilZ)) mNil))
def fs_take_condition : List PyData → List PyData → Option ((PyData × List PyData) ⊕ Str) := runS 1 [0] mb_take_condition
set_option maxHeartbeats 0 in
theorem ok_take_condition {P : Program} {w : World} {K : PySem.W.Frag} {mg : Str → Option Value} {base : Heap} (T : Txt K mg w) (G_take_or : FnOk P w K mg base (L2N.CX P w) (157) T.f_take_or T.fd_take_or ["reader", "bounds"] (spS K JJ mg [0, 1] 0 (fs_take_or (fs_take_alone 30)))) (G_Bounds___init : FnOk P w K mg base (L2N.CX P w) (1) T.f_Bounds___init T.fd_Bounds___init ["self", "most"] (spS K JJ mg [1] 1 fs_Bounds___init)) : FnOk P w K mg base (L2N.CX P w) (158) T.f_take_condition T.fd_take_condition ["reader"] (spS K JJ mg [0] 0 fs_take_condition) := by
  have F := defX_fam (P := P) (w := w) (K := K) (mg := mg) (base := base) (qual := "take_condition") (sc := defScope s_take_condition) (f := T.f_take_condition) (j := 157) sc_take_condition.nd
  have hS := fun i => (rfl : (defX P w K mg base ["reader"] "take_condition" (defScope s_take_condition) T.f_take_condition (157) i).env.scope = defScope s_take_condition)
  exact fn_S (M := mP [0, 4000] 1 rfl) T.F_take_condition sc_take_condition (frS rfl rfl rfl rfl) rfl (fun as hl =>
      (ys_one
      (y_ret (z_callG1 (i := 0) (c0 := 0) (c := 1) (fn := (fs_take_or (fs_take_alone 30))) (fun _ => G_take_or) (fun j => (F.room j).mono (by omega)) (fun _ => T.g_take_or) (fun _ => T.k_take_or) (fun _ => T.b_take_or) defX_tk (n_makeA (fn := fs_Bounds___init) (n := 1) (c := 1) (fun _ => T.mk_Bounds) (fun _ => G_Bounds___init) (fun j => (F.room j).mono (by omega)) (fun _ => T.mg_Bounds) (fun _ => T.b_Bounds___init) (za_cons (W := defW) (z_of (d_glob T.dp_MOST_CONDITIONS (fun _ => pe_glob rfl T.mg_MOST_CONDITIONS T.rl_MOST_CONDITIONS))) za_nil) (fun _ h => h)) (okS rfl (by decide)) (fun _ h => h)))))
theorem sc_take_step : FnScope ["reader", "ask", "word"] ["reader", "ask"] (defScope s_take_step) := ⟨rfl, rfl, rfl, by decide +kernel, rfl, by decide +kernel, by decide +kernel⟩
def mb_take_step : En → Option Fy :=
    (mSeqY
    (mAsgY (mMeth "take" 0 0 0 fs_Reader_take mNilZ) 2)
    (mSeqY
    (mIfY (zOf (mTst (mBin dEq (mVar 2) (mC (.str "where"))))) (mRetY (mTupZ (mConsZ (zOf (mVar 2)) (mConsZ (zOf (mVar 1)) (mConsZ (mCS [(0, 0)] 0 fs_take_condition mNilZ) mNilZ))))) (fun env => some (.nx env)))
    (mSeqY
    (mIfY (zOf (mTst (mBin (dIn false) (mVar 2) (mTup (mCons (mC (.str "keep")) (mCons (mC (.str "named")) mNil)))))) (mRetY (mTupZ (mConsZ (zOf (mVar 2)) (mConsZ (zOf (mVar 1)) (mConsZ (mMeth "take_names" 0 0 0 fs_Reader_take_names mNilZ) mNilZ))))) (fun env => some (.nx env)))
    (mSeqY
    (mIfY (zOf (mTst (mBin dEq (mVar 2) (mC (.str "count"))))) (mRetY (mTupZ (mConsZ (zOf (mVar 2)) (mConsZ (zOf (mVar 1)) (mConsZ (mMeth "take_name" 0 0 0 fs_Reader_take_name mNilZ) mNilZ))))) (fun env => some (.nx env)))
    (mSeqY
    (mIfY (zOf (mTst (mBin dNe (mVar 2) (mC (.str "seal"))))) (yOf (fun env => ((mC (.str "no word that may stand behind an ask")) env).bind fun _ => some (.xc "NoText" env))) (fun env => some (.nx env)))
    (mRetY (zOf (mTup (mCons (mVar 2) (mCons (mVar 1) mNil))))))))))
def fs_take_step : List PyData → List PyData → Option ((PyData × List PyData) ⊕ Str) := runS 3 [0] mb_take_step
set_option maxHeartbeats 0 in
theorem ok_take_step {P : Program} {w : World} {K : PySem.W.Frag} {mg : Str → Option Value} {base : Heap} (T : Txt K mg w) (G_Reader_take_name : FnOk P w K mg base (L2N.CX P w) (3) T.f_Reader_take_name T.fd_Reader_take_name ["self"] (spS K JJ mg [0] 0 fs_Reader_take_name)) (G_Reader_take_names : FnOk P w K mg base (L2N.CX P w) (1) T.f_Reader_take_names T.fd_Reader_take_names ["self"] (spS K JJ mg [0] 0 fs_Reader_take_names)) (G_take_condition : FnOk P w K mg base (L2N.CX P w) (158) T.f_take_condition T.fd_take_condition ["reader"] (spS K JJ mg [0] 0 fs_take_condition)) (G_Reader_take : FnOk P w K mg base (L2N.CX P w) (2) T.f_Reader_take T.fd_Reader_take ["self"] (spS K JJ mg [0] 0 fs_Reader_take)) : FnOk P w K mg base (L2N.CX P w) (159) T.f_take_step T.fd_take_step ["reader", "ask"] (spS K JJ mg [0] 1 fs_take_step) := by
  have F := defX_fam (P := P) (w := w) (K := K) (mg := mg) (base := base) (qual := "take_step") (sc := defScope s_take_step) (f := T.f_take_step) (j := 158) sc_take_step.nd
  have hS := fun i => (rfl : (defX P w K mg base ["reader", "ask", "word"] "take_step" (defScope s_take_step) T.f_take_step (158) i).env.scope = defScope s_take_step)
  exact fn_S (M := mP [0, 4000] 1 rfl) T.F_take_step sc_take_step (frS rfl rfl rfl rfl) rfl (fun as hl =>
      (ys_cons
      (y_asg F 2 (z_meth (i := 0) (c := 0) (n := 0) (m := "take") (fn := fs_Reader_take) (fun j => pe_methE0 (pv 0) T.cl_Reader T.me_Reader_take G_Reader_take ((F.room j).mono (by omega)) T.b_Reader_take (fun σ => L2N.passAt (defX_tk j) σ)) snd_nilZ (okS rfl (by decide)) (fun _ h => h)))
      (ys_cons
      (y_if (zt_of (t_cmp (fun i => op_eqK (F.hK i) (F.u64 i)) opd_eq (q_of (d_var 2)) (q_of d_str))) (ys_one
      (y_ret (z_tup (za_cons (W := defW) (z_of (d_var 2)) (za_cons (W := defW) (z_of (d_var 1)) (za_cons (W := defW) (z_call (is := [(0, 0)]) (n := 0) (fn := fs_take_condition) (fun j => pe_callS G_take_condition ((F.room j).mono (by omega)) rfl T.g_take_condition T.k_take_condition T.b_take_condition (fun σ => L2N.passAt (defX_tk j) σ) (pa_cons (pv 0) pa_nil)) snd_nilZ (okS rfl (by decide)) (fun _ h => h)) za_nil)))))) ys_nil)
      (ys_cons
      (y_if (zt_of (t_cmp (fun i => op_ins (F.hK i) (F.u65 i)) (opd_in false) (q_of (d_var 2)) (q_of (d_tup (a_cons d_str (a_cons d_str a_nil)))))) (ys_one
      (y_ret (z_tup (za_cons (W := defW) (z_of (d_var 2)) (za_cons (W := defW) (z_of (d_var 1)) (za_cons (W := defW) (z_meth (i := 0) (c := 0) (n := 0) (m := "take_names") (fn := fs_Reader_take_names) (fun j => pe_methE0 (pv 0) T.cl_Reader T.me_Reader_take_names G_Reader_take_names ((F.room j).mono (by omega)) T.b_Reader_take_names (fun σ => L2N.passAt (defX_tk j) σ)) snd_nilZ (okS rfl (by decide)) (fun _ h => h)) za_nil)))))) ys_nil)
      (ys_cons
      (y_if (zt_of (t_cmp (fun i => op_eqK (F.hK i) (F.u64 i)) opd_eq (q_of (d_var 2)) (q_of d_str))) (ys_one
      (y_ret (z_tup (za_cons (W := defW) (z_of (d_var 2)) (za_cons (W := defW) (z_of (d_var 1)) (za_cons (W := defW) (z_meth (i := 0) (c := 0) (n := 0) (m := "take_name") (fn := fs_Reader_take_name) (fun j => pe_methE0 (pv 0) T.cl_Reader T.me_Reader_take_name G_Reader_take_name ((F.room j).mono (by omega)) T.b_Reader_take_name (fun σ => L2N.passAt (defX_tk j) σ)) snd_nilZ (okS rfl (by decide)) (fun _ h => h)) za_nil)))))) ys_nil)
      (ys_cons
      (y_if (zt_of (t_cmp (fun i => op_neK (F.hK i) (F.u64 i)) opd_ne (q_of (d_var 2)) (q_of d_str))) (ys_one
      (y_of (have hE := d_str; x_raiseA F T.mgc_NoText defX_tk hE (fun i => pmk_any PySem.F.excBase_ValueError T.er_NoText.xc T.mgc_NoText T.er_NoText.kc (raises_own T.er_NoText.bc T.ec_NoText.ty) rfl (hE.pe i))))) ys_nil)
      (ys_one
      (y_ret (z_of (d_tup (a_cons (d_var 2) (a_cons (d_var 1) a_nil))))))))))))
theorem sc_take_first : FnScope ["reader", "bounds", "word", "left", "between", "right"] ["reader", "bounds"] (defScope s_take_first) := ⟨rfl, rfl, rfl, by decide +kernel, rfl, by decide +kernel, by decide +kernel⟩
def mb_take_first (self : List PyData → List PyData → Option ((PyData × List PyData) ⊕ Str)) : En → Option Fy :=
    (mSeqY
    (mExprY (mMeth "count_part" 1 1 0 fs_Bounds_count_part mNilZ))
    (mSeqY
    (mAsgY (mMeth "take" 0 0 0 fs_Reader_take mNilZ) 2)
    (mSeqY
    (mIfY (zOf (mTst (mBin (dIn false) (mVar 2) (mTup (mCons (mC (.str "rows")) (mCons (mC (.str "view")) mNil)))))) (mRetY (mTupZ (mConsZ (zOf (mVar 2)) (mConsZ (mMeth "take_name" 0 0 0 fs_Reader_take_name mNilZ) mNilZ)))) (fun env => some (.nx env)))
    (mSeqY
    (mIfY (zOf (mTst (mBin dNe (mVar 2) (mC (.str "("))))) (yOf (fun env => ((mC (.str "no word that an ask begins with")) env).bind fun _ => some (.xc "NoText" env))) (fun env => some (.nx env)))
    (mSeqY
    (mAsgY (mCS [(0, 0), (1, 1)] 0 self mNilZ) 3)
    (mSeqY
    (mAsgY (mMeth "take" 0 0 0 fs_Reader_take mNilZ) 4)
    (mSeqY
    (mIfY (zOf (mTst (mBin (dIn true) (mVar 4) (mTup (mCons (mC (.str "pairs")) (mCons (mC (.str "both")) (mCons (mC (.str "less")) mNil))))))) (yOf (fun env => ((mC (.str "no word that may stand between two asks")) env).bind fun _ => some (.xc "NoText" env))) (fun env => some (.nx env)))
    (mSeqY
    (mIfY (zOf (mTst (mBin dEq (mVar 4) (mC (.str "pairs"))))) (mExprY (mMeth "count_pair" 1 1 0 fs_Bounds_count_pair mNilZ)) (fun env => some (.nx env)))
    (mSeqY
    (mAsgY (mCS [(0, 0), (1, 1)] 0 self mNilZ) 5)
    (mSeqY
    (mExprY (mMeth "take_this" 0 0 1 fs_Reader_take_this (mConsZ (zOf (mC (.str ")"))) mNilZ)))
    (mRetY (zOf (mTup (mCons (mVar 4) (mCons (mVar 3) (mCons (mVar 5) mNil))))))))))))))))
def fs_take_first (self : List PyData → List PyData → Option ((PyData × List PyData) ⊕ Str)) : List PyData → List PyData → Option ((PyData × List PyData) ⊕ Str) := runS 6 [0, 1] (mb_take_first self)
set_option maxHeartbeats 0 in
theorem ok_take_first {P : Program} {w : World} {K : PySem.W.Frag} {mg : Str → Option Value} {base : Heap} (T : Txt K mg w) (G_Reader_take_this : FnOk P w K mg base (L2N.CX P w) (3) T.f_Reader_take_this T.fd_Reader_take_this ["self", "word"] (spS K JJ mg [0] 1 fs_Reader_take_this)) (G_Bounds_count_pair : FnOk P w K mg base (L2N.CX P w) (1) T.f_Bounds_count_pair T.fd_Bounds_count_pair ["self"] (spS K JJ mg [1] 0 fs_Bounds_count_pair)) (G_Reader_take : FnOk P w K mg base (L2N.CX P w) (2) T.f_Reader_take T.fd_Reader_take ["self"] (spS K JJ mg [0] 0 fs_Reader_take)) (G_Reader_take_name : FnOk P w K mg base (L2N.CX P w) (3) T.f_Reader_take_name T.fd_Reader_take_name ["self"] (spS K JJ mg [0] 0 fs_Reader_take_name)) (G_Bounds_count_part : FnOk P w K mg base (L2N.CX P w) (1) T.f_Bounds_count_part T.fd_Bounds_count_part ["self"] (spS K JJ mg [1] 0 fs_Bounds_count_part)) {n : Nat} {self : List PyData → List PyData → Option ((PyData × List PyData) ⊕ Str)} (GS : FnOk P w K mg base (L2N.CX P w) (160 + 2 * n) T.f_take_ask T.fd_take_ask ["reader", "bounds"] (spS K JJ mg [0, 1] 0 self))  : FnOk P w K mg base (L2N.CX P w) (160 + 2 * n + 1) T.f_take_first T.fd_take_first ["reader", "bounds"] (spS K JJ mg [0, 1] 0 (fs_take_first self)) := by
  have F := defX_fam (P := P) (w := w) (K := K) (mg := mg) (base := base) (qual := "take_first") (sc := defScope s_take_first) (f := T.f_take_first) (j := 160 + 2 * n + 0) sc_take_first.nd
  have hS := fun i => (rfl : (defX P w K mg base ["reader", "bounds", "word", "left", "between", "right"] "take_first" (defScope s_take_first) T.f_take_first (160 + 2 * n + 0) i).env.scope = defScope s_take_first)
  exact fn_S (M := mP [0, 1, 4000, 5001] 2 rfl) T.F_take_first sc_take_first (frS rfl rfl rfl rfl) rfl (fun as hl =>
      (ys_cons
      (y_expr (z_meth (i := 1) (c := 1) (n := 0) (m := "count_part") (fn := fs_Bounds_count_part) (fun j => pe_methE0 (pv 1) T.cl_Bounds T.me_Bounds_count_part G_Bounds_count_part ((F.room j).mono (by omega)) T.b_Bounds_count_part (fun σ => L2N.passAt (defX_tk j) σ)) snd_nilZ (okS rfl (by decide)) (fun _ h => h)))
      (ys_cons
      (y_asg F 2 (z_meth (i := 0) (c := 0) (n := 0) (m := "take") (fn := fs_Reader_take) (fun j => pe_methE0 (pv 0) T.cl_Reader T.me_Reader_take G_Reader_take ((F.room j).mono (by omega)) T.b_Reader_take (fun σ => L2N.passAt (defX_tk j) σ)) snd_nilZ (okS rfl (by decide)) (fun _ h => h)))
      (ys_cons
      (y_if (zt_of (t_cmp (fun i => op_ins (F.hK i) (F.u65 i)) (opd_in false) (q_of (d_var 2)) (q_of (d_tup (a_cons d_str (a_cons d_str a_nil)))))) (ys_one
      (y_ret (z_tup (za_cons (W := defW) (z_of (d_var 2)) (za_cons (W := defW) (z_meth (i := 0) (c := 0) (n := 0) (m := "take_name") (fn := fs_Reader_take_name) (fun j => pe_methE0 (pv 0) T.cl_Reader T.me_Reader_take_name G_Reader_take_name ((F.room j).mono (by omega)) T.b_Reader_take_name (fun σ => L2N.passAt (defX_tk j) σ)) snd_nilZ (okS rfl (by decide)) (fun _ h => h)) za_nil))))) ys_nil)
      (ys_cons
      (y_if (zt_of (t_cmp (fun i => op_neK (F.hK i) (F.u64 i)) opd_ne (q_of (d_var 2)) (q_of d_str))) (ys_one
      (y_of (have hE := d_str; x_raiseA F T.mgc_NoText defX_tk hE (fun i => pmk_any PySem.F.excBase_ValueError T.er_NoText.xc T.mgc_NoText T.er_NoText.kc (raises_own T.er_NoText.bc T.ec_NoText.ty) rfl (hE.pe i))))) ys_nil)
      (ys_cons
      (y_asg F 3 (z_call (is := [(0, 0), (1, 1)]) (n := 0) (fn := self) (fun j => pe_callS GS ((F.room j).mono (by omega)) rfl T.g_take_ask T.k_take_ask T.b_take_ask (fun σ => L2N.passAt (defX_tk j) σ) (pa_cons (pv 0) (pa_cons (pv 1) pa_nil))) snd_nilZ (okS rfl (by decide)) (fun _ h => h)))
      (ys_cons
      (y_asg F 4 (z_meth (i := 0) (c := 0) (n := 0) (m := "take") (fn := fs_Reader_take) (fun j => pe_methE0 (pv 0) T.cl_Reader T.me_Reader_take G_Reader_take ((F.room j).mono (by omega)) T.b_Reader_take (fun σ => L2N.passAt (defX_tk j) σ)) snd_nilZ (okS rfl (by decide)) (fun _ h => h)))
      (ys_cons
      (y_if (zt_of (t_cmp (fun i => op_notIns (F.hK i) (F.u65 i)) (opd_in true) (q_of (d_var 4)) (q_of (d_tup (a_cons d_str (a_cons d_str (a_cons d_str a_nil))))))) (ys_one
      (y_of (have hE := d_str; x_raiseA F T.mgc_NoText defX_tk hE (fun i => pmk_any PySem.F.excBase_ValueError T.er_NoText.xc T.mgc_NoText T.er_NoText.kc (raises_own T.er_NoText.bc T.ec_NoText.ty) rfl (hE.pe i))))) ys_nil)
      (ys_cons
      (y_if (zt_of (t_cmp (fun i => op_eqK (F.hK i) (F.u64 i)) opd_eq (q_of (d_var 4)) (q_of d_str))) (ys_one
      (y_expr (z_meth (i := 1) (c := 1) (n := 0) (m := "count_pair") (fn := fs_Bounds_count_pair) (fun j => pe_methE0 (pv 1) T.cl_Bounds T.me_Bounds_count_pair G_Bounds_count_pair ((F.room j).mono (by omega)) T.b_Bounds_count_pair (fun σ => L2N.passAt (defX_tk j) σ)) snd_nilZ (okS rfl (by decide)) (fun _ h => h)))) ys_nil)
      (ys_cons
      (y_asg F 5 (z_call (is := [(0, 0), (1, 1)]) (n := 0) (fn := self) (fun j => pe_callS GS ((F.room j).mono (by omega)) rfl T.g_take_ask T.k_take_ask T.b_take_ask (fun σ => L2N.passAt (defX_tk j) σ) (pa_cons (pv 0) (pa_cons (pv 1) pa_nil))) snd_nilZ (okS rfl (by decide)) (fun _ h => h)))
      (ys_cons
      (y_expr (z_methA (i := 0) (c := 0) (n := 1) (fn := fs_Reader_take_this) (fun _ => T.cl_Reader) (fun _ => T.me_Reader_take_this) (fun _ => G_Reader_take_this) (fun j => (F.room j).mono (by omega)) (fun _ => T.b_Reader_take_this) defX_tk (za_cons (W := defW) (z_of d_str) za_nil) (okS rfl (by decide)) (fun _ h => h)))
      (ys_one
      (y_ret (z_of (d_tup (a_cons (d_var 4) (a_cons (d_var 3) (a_cons (d_var 5) a_nil))))))))))))))))))
theorem sc_take_ask : FnScope ["reader", "bounds", "ask"] ["reader", "bounds"] (defScope s_take_ask) := ⟨rfl, rfl, rfl, by decide +kernel, rfl, by decide +kernel, by decide +kernel⟩
def lt1_take_ask (self : List PyData → List PyData → Option ((PyData × List PyData) ⊕ Str)) : En → Option (Zx Bool) :=
    (mTruZ (mMeth "takes" 0 0 1 fs_Reader_takes (mConsZ (zOf (mC (.str "|"))) mNilZ)))
def lb1_take_ask (self : List PyData → List PyData → Option ((PyData × List PyData) ⊕ Str)) : En → Option Fy :=
    (mSeqY
    (mExprY (mMeth "count_part" 1 1 0 fs_Bounds_count_part mNilZ))
    (mAsgY (mCS [(0, 0)] 1 fs_take_step (mConsZ (zOf (mVar 2)) mNilZ)) 2))
def mb_take_ask (self : List PyData → List PyData → Option ((PyData × List PyData) ⊕ Str)) : En → Option Fy :=
    (mSeqY
    (mAsgY (mCS [(0, 0), (1, 1)] 0 (fs_take_first self) mNilZ) 2)
    (mSeqY
    (whileY (lt1_take_ask self) (lb1_take_ask self) 12)
    (mRetY (zOf (mVar 2)))))
def fs_take_ask : Nat → List PyData → List PyData → Option ((PyData × List PyData) ⊕ Str)
  | 0 => fun _ _ => none
  | n + 1 => runS 3 [0, 1] (mb_take_ask (fs_take_ask n))
set_option maxHeartbeats 0 in
theorem ok_take_ask {P : Program} {w : World} {K : PySem.W.Frag} {mg : Str → Option Value} {base : Heap} (T : Txt K mg w) (G_Reader_take_this : FnOk P w K mg base (L2N.CX P w) (3) T.f_Reader_take_this T.fd_Reader_take_this ["self", "word"] (spS K JJ mg [0] 1 fs_Reader_take_this)) (G_Bounds_count_pair : FnOk P w K mg base (L2N.CX P w) (1) T.f_Bounds_count_pair T.fd_Bounds_count_pair ["self"] (spS K JJ mg [1] 0 fs_Bounds_count_pair)) (G_Reader_take : FnOk P w K mg base (L2N.CX P w) (2) T.f_Reader_take T.fd_Reader_take ["self"] (spS K JJ mg [0] 0 fs_Reader_take)) (G_Reader_take_name : FnOk P w K mg base (L2N.CX P w) (3) T.f_Reader_take_name T.fd_Reader_take_name ["self"] (spS K JJ mg [0] 0 fs_Reader_take_name)) (G_Bounds_count_part : FnOk P w K mg base (L2N.CX P w) (1) T.f_Bounds_count_part T.fd_Bounds_count_part ["self"] (spS K JJ mg [1] 0 fs_Bounds_count_part)) (G_Reader_takes : FnOk P w K mg base (L2N.CX P w) (2) T.f_Reader_takes T.fd_Reader_takes ["self", "word"] (spS K JJ mg [0] 1 fs_Reader_takes)) (G_take_step : FnOk P w K mg base (L2N.CX P w) (159) T.f_take_step T.fd_take_step ["reader", "ask"] (spS K JJ mg [0] 1 fs_take_step)) : ∀ n, FnOk P w K mg base (L2N.CX P w) (160 + 2 * n) T.f_take_ask T.fd_take_ask ["reader", "bounds"] (spS K JJ mg [0, 1] 0 (fs_take_ask n))
  | 0 => fn_noneS T.F_take_ask sc_take_ask rfl (fun _ _ => rfl)
  | n + 1 => by
    have GS := ok_take_ask (P := P) (w := w) (base := base) T G_Reader_take_this G_Bounds_count_pair G_Reader_take G_Reader_take_name G_Bounds_count_part G_Reader_takes G_take_step n
    have G_take_first := ok_take_first T G_Reader_take_this G_Bounds_count_pair G_Reader_take G_Reader_take_name G_Bounds_count_part GS 
    rw [show 160 + 2 * (n + 1) = (160 + 2 * n + 1) + 1 by omega]
    have F := defX_fam (P := P) (w := w) (K := K) (mg := mg) (base := base) (qual := "take_ask") (sc := defScope s_take_ask) (f := T.f_take_ask) (j := 160 + 2 * n + 1) sc_take_ask.nd
    have hS := fun i => (rfl : (defX P w K mg base ["reader", "bounds", "ask"] "take_ask" (defScope s_take_ask) T.f_take_ask (160 + 2 * n + 1) i).env.scope = defScope s_take_ask)
    exact fn_S (M := mP [0, 1, 4000, 5001] 2 rfl) T.F_take_ask sc_take_ask (frS rfl rfl rfl rfl) rfl (fun as hl =>
      (ys_cons
      (y_asg F 2 (z_call (is := [(0, 0), (1, 1)]) (n := 0) (fn := (fs_take_first (fs_take_ask n))) (fun j => pe_callS G_take_first ((F.room j).mono (by omega)) rfl T.g_take_first T.k_take_first T.b_take_first (fun σ => L2N.passAt (defX_tk j) σ) (pa_cons (pv 0) (pa_cons (pv 1) pa_nil))) snd_nilZ (okS rfl (by decide)) (fun _ h => h)))
      (ys_cons
      (y_while 12 (fun _ => PassesOwn.leaving) (zt_tru F (z_methA (i := 0) (c := 0) (n := 1) (fn := fs_Reader_takes) (fun _ => T.cl_Reader) (fun _ => T.me_Reader_takes) (fun _ => G_Reader_takes) (fun j => (F.room j).mono (by omega)) (fun _ => T.b_Reader_takes) defX_tk (za_cons (W := defW) (z_of d_str) za_nil) (okS rfl (by decide)) (fun _ h => h))) (ys_cons
      (y_expr (z_meth (i := 1) (c := 1) (n := 0) (m := "count_part") (fn := fs_Bounds_count_part) (fun j => pe_methE0 (pv 1) T.cl_Bounds T.me_Bounds_count_part G_Bounds_count_part ((F.room j).mono (by omega)) T.b_Bounds_count_part (fun σ => L2N.passAt (defX_tk j) σ)) snd_nilZ (okS rfl (by decide)) (fun _ h => h)))
      (ys_one
      (y_asg F 2 (have hA := (za_cons (W := defW) (z_of (d_var 2)) za_nil); z_call (is := [(0, 0)]) (n := 1) (fn := fs_take_step) (fun j => pe_callS G_take_step ((F.room j).mono (by omega)) rfl T.g_take_step T.k_take_step T.b_take_step (fun σ => L2N.passAt (defX_tk j) σ) (pa_cons (pv 0) (hA.pa j))) hA.sd (okS rfl (by decide)) (fun _ h => h))))))
      (ys_one
      (y_ret (z_of (d_var 2)))))))
theorem sc_reader_of : FnScope ["thing"] ["thing"] (defScope s_reader_of) := ⟨rfl, rfl, rfl, by decide +kernel, rfl, by decide +kernel, by decide +kernel⟩
def mb_reader_of : En → Option Fy :=
    (mIfY (zOf (mNotT (mTru (mIsi (isiD "str") (mVar 0))))) (yOf (fun env => ((mC (.str "no text")) env).bind fun _ => some (.xc "NoText" env))) (fun env => some (.nx env)))
def mn_reader_of : En → Option (Zx PyData) :=
    (mMake 1 fs_Reader___init (mConsZ (zOf (mSplit (mVar 0) (mC (.str " ")))) mNilZ))
def fn_reader_of : List PyData → Option (PyData ⊕ Str) := runN 1 mb_reader_of mn_reader_of
set_option maxHeartbeats 0 in
theorem ok_reader_of {P : Program} {w : World} {K : PySem.W.Frag} {mg : Str → Option Value} {base : Heap} (T : Txt K mg w) (G_Reader___init : FnOk P w K mg base (L2N.CX P w) (1) T.f_Reader___init T.fd_Reader___init ["self", "words"] (spS K JJ mg [0] 1 fs_Reader___init)) : FnOk P w K mg base (L2N.CX P w) (3) T.f_reader_of T.fd_reader_of ["thing"] (spN K JJ mg 0 1 fn_reader_of) := by
  have F := defX_fam (P := P) (w := w) (K := K) (mg := mg) (base := base) (qual := "reader_of") (sc := defScope s_reader_of) (f := T.f_reader_of) (j := 2) sc_reader_of.nd
  have hS := fun i => (rfl : (defX P w K mg base ["thing"] "reader_of" (defScope s_reader_of) T.f_reader_of (2) i).env.scope = defScope s_reader_of)
  exact fn_N (M := mJ []) T.F_reader_of sc_reader_of rfl (fun _ h => h) (mmAll rfl)
      (y_if (zt_of (t_not (t_tru F (q_of (d_isi F "str" (q_of (d_var 0)) (fun _ => T.n_isinstance) (fun _ => T.n_str) isiT_str (by decide +kernel)))))) (ys_one
      (y_of (have hE := d_str; x_raiseA F T.mgc_NoText defX_tk hE (fun i => pmk_any PySem.F.excBase_ValueError T.er_NoText.xc T.mgc_NoText T.er_NoText.kc (raises_own T.er_NoText.bc T.ec_NoText.ty) rfl (hE.pe i))))) ys_nil)
      (n_makeA (fn := fs_Reader___init) (n := 1) (c := 0) (fun _ => T.mk_Reader) (fun _ => G_Reader___init) (fun j => (F.room j).mono (by omega)) (fun _ => T.mg_Reader) (fun _ => T.b_Reader___init) (za_cons (W := defW) (z_of (d_split (d_var 0) d_str)) za_nil) (fun _ h => h))
theorem sc_check_end : FnScope ["reader"] ["reader"] (defScope s_check_end) := ⟨rfl, rfl, rfl, by decide +kernel, rfl, by decide +kernel, by decide +kernel⟩
def mb_check_end : En → Option Fy :=
    (mIfY (mCmpZ (dIs true) (mMeth "ahead" 0 0 0 fs_Reader_ahead mNilZ) (zOf (mC .none))) (yOf (fun env => ((mC (.str "words behind the end")) env).bind fun _ => some (.xc "NoText" env))) (fun env => some (.nx env)))
def fs_check_end : List PyData → List PyData → Option ((PyData × List PyData) ⊕ Str) := runS 1 [0] mb_check_end
set_option maxHeartbeats 0 in
theorem ok_check_end {P : Program} {w : World} {K : PySem.W.Frag} {mg : Str → Option Value} {base : Heap} (T : Txt K mg w) (G_Reader_ahead : FnOk P w K mg base (L2N.CX P w) (1) T.f_Reader_ahead T.fd_Reader_ahead ["self"] (spS K JJ mg [0] 0 fs_Reader_ahead)) : FnOk P w K mg base (L2N.CX P w) (2) T.f_check_end T.fd_check_end ["reader"] (spS K JJ mg [0] 0 fs_check_end) := by
  have F := defX_fam (P := P) (w := w) (K := K) (mg := mg) (base := base) (qual := "check_end") (sc := defScope s_check_end) (f := T.f_check_end) (j := 1) sc_check_end.nd
  have hS := fun i => (rfl : (defX P w K mg base ["reader"] "check_end" (defScope s_check_end) T.f_check_end (1) i).env.scope = defScope s_check_end)
  exact fn_S (M := mP [0, 4000] 1 rfl) T.F_check_end sc_check_end (frS rfl rfl rfl rfl) rfl (fun as hl =>
      (ys_one
      (y_if (zt_cmp (fun _ => op_isNotB) (opd_is true) (z_meth (i := 0) (c := 0) (n := 0) (m := "ahead") (fn := fs_Reader_ahead) (fun j => pe_methE0 (pv 0) T.cl_Reader T.me_Reader_ahead G_Reader_ahead ((F.room j).mono (by omega)) T.b_Reader_ahead (fun σ => L2N.passAt (defX_tk j) σ)) snd_nilZ (okS rfl (by decide)) (fun _ h => h)) (z_of d_non)) (ys_one
      (y_of (have hE := d_str; x_raiseA F T.mgc_NoText defX_tk hE (fun i => pmk_any PySem.F.excBase_ValueError T.er_NoText.xc T.mgc_NoText T.er_NoText.kc (raises_own T.er_NoText.bc T.ec_NoText.ty) rfl (hE.pe i))))) ys_nil)))
theorem sc_read_condition : FnScope ["thing", "reader", "condition"] ["thing"] (defScope s_read_condition) := ⟨rfl, rfl, rfl, by decide +kernel, rfl, by decide +kernel, by decide +kernel⟩
def mb_read_condition : En → Option Fy :=
    (mSeqY
    (mAsgN (mNew 1 fn_reader_of (mConsZ (zOf (mVar 0)) mNilZ)) 1)
    (mSeqY
    (mAsgY (mCS [(1, 0)] 0 fs_take_condition mNilZ) 2)
    (mSeqY
    (mExprY (mCS [(1, 0)] 0 fs_check_end mNilZ))
    (mRetY (zOf (mVar 2))))))
def fx_read_condition : List PyData → Option (PyData ⊕ Str) := runY 3 mb_read_condition
set_option maxHeartbeats 0 in
theorem ok_read_condition {P : Program} {w : World} {K : PySem.W.Frag} {mg : Str → Option Value} {base : Heap} (T : Txt K mg w) (G_check_end : FnOk P w K mg base (L2N.CX P w) (2) T.f_check_end T.fd_check_end ["reader"] (spS K JJ mg [0] 0 fs_check_end)) (G_take_condition : FnOk P w K mg base (L2N.CX P w) (158) T.f_take_condition T.fd_take_condition ["reader"] (spS K JJ mg [0] 0 fs_take_condition)) (G_reader_of : FnOk P w K mg base (L2N.CX P w) (3) T.f_reader_of T.fd_reader_of ["thing"] (spN K JJ mg 0 1 fn_reader_of)) : FnOk P w K mg base (L2N.CX P w) (159) T.f_read_condition T.fd_read_condition ["thing"] (spX K JJ mg 1 fx_read_condition) := by
  have F := defX_fam (P := P) (w := w) (K := K) (mg := mg) (base := base) (qual := "read_condition") (sc := defScope s_read_condition) (f := T.f_read_condition) (j := 158) sc_read_condition.nd
  have hS := fun i => (rfl : (defX P w K mg base ["thing", "reader", "condition"] "read_condition" (defScope s_read_condition) T.f_read_condition (158) i).env.scope = defScope s_read_condition)
  exact fn_dataY (M := mJ [1, 4001]) T.F_read_condition sc_read_condition (mmAll rfl)
      (ys_cons
      (y_asgN F 1 (n_callA (fn := fn_reader_of) (n := 1) (c := 0) (fun _ => G_reader_of) (fun j => (F.room j).mono (by omega)) (fun _ => T.g_reader_of) (fun _ => T.k_reader_of) (fun _ => T.b_reader_of) defX_tk (za_cons (W := defW) (z_of (d_var 0)) za_nil) (fun _ h => h)))
      (ys_cons
      (y_asg F 2 (z_call (is := [(1, 0)]) (n := 0) (fn := fs_take_condition) (fun j => pe_callS G_take_condition ((F.room j).mono (by omega)) rfl T.g_take_condition T.k_take_condition T.b_take_condition (fun σ => L2N.passAt (defX_tk j) σ) (pa_cons (pv 1) pa_nil)) snd_nilZ (okS rfl (by decide)) (fun _ h => h)))
      (ys_cons
      (y_expr (z_call (is := [(1, 0)]) (n := 0) (fn := fs_check_end) (fun j => pe_callS G_check_end ((F.room j).mono (by omega)) rfl T.g_check_end T.k_check_end T.b_check_end (fun σ => L2N.passAt (defX_tk j) σ) (pa_cons (pv 1) pa_nil)) snd_nilZ (okS rfl (by decide)) (fun _ h => h)))
      (ys_one
      (y_ret (z_of (d_var 2)))))))
theorem sc_read_ask : FnScope ["thing", "reader", "ask"] ["thing"] (defScope s_read_ask) := ⟨rfl, rfl, rfl, by decide +kernel, rfl, by decide +kernel, by decide +kernel⟩
def mb_read_ask : En → Option Fy :=
    (mSeqY
    (mAsgN (mNew 1 fn_reader_of (mConsZ (zOf (mVar 0)) mNilZ)) 1)
    (mSeqY
    (mAsgY (mCG [(1, 0)] 0 (fs_take_ask 2) (mMake 1 fs_Bounds___init (mConsZ (zOf (mC c_MOST_PARTS)) mNilZ)) mNil) 2)
    (mSeqY
    (mExprY (mCS [(1, 0)] 0 fs_check_end mNilZ))
    (mRetY (zOf (mVar 2))))))
def fx_read_ask : List PyData → Option (PyData ⊕ Str) := runY 3 mb_read_ask
set_option maxHeartbeats 0 in
theorem ok_read_ask {P : Program} {w : World} {K : PySem.W.Frag} {mg : Str → Option Value} {base : Heap} (T : Txt K mg w) (G_check_end : FnOk P w K mg base (L2N.CX P w) (2) T.f_check_end T.fd_check_end ["reader"] (spS K JJ mg [0] 0 fs_check_end)) (G_take_ask : FnOk P w K mg base (L2N.CX P w) (164) T.f_take_ask T.fd_take_ask ["reader", "bounds"] (spS K JJ mg [0, 1] 0 (fs_take_ask 2))) (G_Bounds___init : FnOk P w K mg base (L2N.CX P w) (1) T.f_Bounds___init T.fd_Bounds___init ["self", "most"] (spS K JJ mg [1] 1 fs_Bounds___init)) (G_reader_of : FnOk P w K mg base (L2N.CX P w) (3) T.f_reader_of T.fd_reader_of ["thing"] (spN K JJ mg 0 1 fn_reader_of)) : FnOk P w K mg base (L2N.CX P w) (165) T.f_read_ask T.fd_read_ask ["thing"] (spX K JJ mg 1 fx_read_ask) := by
  have F := defX_fam (P := P) (w := w) (K := K) (mg := mg) (base := base) (qual := "read_ask") (sc := defScope s_read_ask) (f := T.f_read_ask) (j := 164) sc_read_ask.nd
  have hS := fun i => (rfl : (defX P w K mg base ["thing", "reader", "ask"] "read_ask" (defScope s_read_ask) T.f_read_ask (164) i).env.scope = defScope s_read_ask)
  exact fn_dataY (M := mJ [1, 4001]) T.F_read_ask sc_read_ask (mmAll rfl)
      (ys_cons
      (y_asgN F 1 (n_callA (fn := fn_reader_of) (n := 1) (c := 0) (fun _ => G_reader_of) (fun j => (F.room j).mono (by omega)) (fun _ => T.g_reader_of) (fun _ => T.k_reader_of) (fun _ => T.b_reader_of) defX_tk (za_cons (W := defW) (z_of (d_var 0)) za_nil) (fun _ h => h)))
      (ys_cons
      (y_asg F 2 (z_callG1 (i := 1) (c0 := 0) (c := 1) (fn := (fs_take_ask 2)) (fun _ => G_take_ask) (fun j => (F.room j).mono (by omega)) (fun _ => T.g_take_ask) (fun _ => T.k_take_ask) (fun _ => T.b_take_ask) defX_tk (n_makeA (fn := fs_Bounds___init) (n := 1) (c := 1) (fun _ => T.mk_Bounds) (fun _ => G_Bounds___init) (fun j => (F.room j).mono (by omega)) (fun _ => T.mg_Bounds) (fun _ => T.b_Bounds___init) (za_cons (W := defW) (z_of (d_glob T.dp_MOST_PARTS (fun _ => pe_glob rfl T.mg_MOST_PARTS T.rl_MOST_PARTS))) za_nil) (fun _ h => h)) (okS rfl (by decide)) (fun _ h => h)))
      (ys_cons
      (y_expr (z_call (is := [(1, 0)]) (n := 0) (fn := fs_check_end) (fun j => pe_callS G_check_end ((F.room j).mono (by omega)) rfl T.g_check_end T.k_check_end T.b_check_end (fun σ => L2N.passAt (defX_tk j) σ) (pa_cons (pv 1) pa_nil)) snd_nilZ (okS rfl (by decide)) (fun _ h => h)))
      (ys_one
      (y_ret (z_of (d_var 2)))))))
theorem sc_law_cell_at : FnScope ["script", "k"] ["script", "k"] (defScope s_law_cell_at) := ⟨rfl, rfl, rfl, by decide +kernel, rfl, by decide +kernel, by decide +kernel⟩
def mb_law_cell_at : En → Option Fl :=
    (mSeq
    (mIfS (mTst (mBin dLt (mVar 1) (mCB bLen (mCons (mVar 0) mNil)))) (mRet (mBin dIx (mVar 0) (mVar 1))) mNext)
    (mRet (mC (.int 0))))
def fm_law_cell_at : List PyData → Option PyData := runB 2 mb_law_cell_at
theorem ok_law_cell_at {P : Program} {w : World} {K : PySem.W.Frag} {mg : Str → Option Value} {base : Heap} (T : Txt K mg w)  : FnOk P w K mg base CX0 (1) T.f_law_cell_at T.fd_law_cell_at ["script", "k"] (spD K JJ 2 fm_law_cell_at) := by
  have F := defF_fam (P := P) (w := w) (K := K) (mg := mg) (base := base) (qual := "_law_cell_at") (sc := defScope s_law_cell_at) (f := T.f_law_cell_at) (j := 0) sc_law_cell_at.nd
  have hS := fun i => (rfl : (defF P w K mg base ["script", "k"] "_law_cell_at" (defScope s_law_cell_at) T.f_law_cell_at (0) i).env.scope = defScope s_law_cell_at)
  exact fn_data (M := mJ []) T.F_law_cell_at sc_law_cell_at (mmAll rfl)
      (ss_cons
      (s_if (t_cmp (fun i => op_ltAll (F.hK i) (F.u64 i)) opd_lt (q_of (d_var 1)) (q_of (d_cb (fun i => cr_len (F.hK i)) crd_len (fun _ => T.n_len) (by decide +kernel) (b_cons (q_of (d_var 0)) b_nil)))) (ss_one
      (s_ret (d_ix (fun i => ix_seqK (F.hK i)) opd_ix (q_of (d_var 0)) (q_of (d_var 1))))) ss_nil)
      (ss_one
      (s_ret d_int)))
theorem sc_law_draws : FnScope ["cell", "many", "base", "found", "rest", "stirred", "k"] ["cell", "many", "base"] (defScope s_law_draws) := ⟨rfl, rfl, rfl, by decide +kernel, rfl, by decide +kernel, by decide +kernel⟩
def lb1_law_draws : En → Option Fl :=
    (mSeq
    (mAsg (mBin dMod (mBin dAdd (mBin dAdd (mBin dAdd (mBin dMul (mVar 5) (mVar 5)) (mBin dMul (mC (.int 48271)) (mVar 5))) (mVar 6)) (mC (.int 1))) (mC (.int 2305843009213693951))) (gB 5))
    (mIfS (mAndT (mTst (mBin dGt (mVar 6) (mC (.int 2)))) (mTst (mBin dGt (mVar 4) (mC (.int 0))))) (mSeq
    (mApp 3 (mBin dMod (mVar 4) (mVar 2)))
    (mAsg (mBin dDiv (mVar 4) (mVar 2)) (gB 4))) (mIfS (mTst (mBin dGt (mVar 6) (mC (.int 2)))) (mApp 3 (mBin dMod (mBin dDiv (mVar 5) (mC (.int 4096))) (mVar 2))) mNext)))
def mb_law_draws : En → Option Fl :=
    (mSeq
    (mAsg (mLst mNil) (gB 3))
    (mSeq
    (mAsg (mBin dMul (mVar 0) (mCB bInt (mCons (mBin dGe (mVar 0) (mBin dPow (mC (.int 10)) (mC (.int 18)))) mNil))) (gB 4))
    (mSeq
    (mAsg (mBin dMod (mVar 0) (mC (.int 2305843009213693951))) (gB 5))
    (mSeq
    (mFor (mRng rng1 (mCons (mBin dAdd (mVar 1) (mC (.int 3))) mNil)) (gB 6) lb1_law_draws)
    (mRet (mVar 3))))))
def fm_law_draws : List PyData → Option PyData := runB 7 mb_law_draws
theorem ok_law_draws {P : Program} {w : World} {K : PySem.W.Frag} {mg : Str → Option Value} {base : Heap} (T : Txt K mg w)  : FnOk P w K mg base CX0 (1) T.f_law_draws T.fd_law_draws ["cell", "many", "base"] (spD K JJ 3 fm_law_draws) := by
  have F := defF_fam (P := P) (w := w) (K := K) (mg := mg) (base := base) (qual := "_law_draws") (sc := defScope s_law_draws) (f := T.f_law_draws) (j := 0) sc_law_draws.nd
  have hS := fun i => (rfl : (defF P w K mg base ["cell", "many", "base", "found", "rest", "stirred", "k"] "_law_draws" (defScope s_law_draws) T.f_law_draws (0) i).env.scope = defScope s_law_draws)
  exact fn_data (M := mJ [3]) T.F_law_draws sc_law_draws (mmAll rfl)
      (ss_cons
      (s_own F 3 f_nil)
      (ss_cons
      (s_set F 4 (d_op (fun _ => op_mulA) opd_mul (q_of (d_var 0)) (q_of (d_ty (fun _ => call_int1) crd_int (fun _ => T.n_int) (by decide +kernel) (b_cons (q_of (d_cmp (fun _ => op_ge) opd_ge (q_of (d_var 0)) (q_of (d_op (fun _ => op_pow) opd_pow (q_of d_int) (q_of d_int))))) b_nil)))))
      (ss_cons
      (s_set F 5 (d_op (fun _ => op_mod) opd_mod (q_of (d_var 0)) (q_of d_int)))
      (ss_cons
      (s_for F (fun _ => PassesOwn.never) (i_range1 (fun _ => T.n_range) (a_cons (d_op (fun i => op_adds (F.hK i)) opd_add (q_of (d_var 1)) (q_of d_int)) a_nil)) (g_name F 6) (ss_cons
      (s_set F 5 (d_op (fun _ => op_mod) opd_mod (q_of (d_op (fun i => op_adds (F.hK i)) opd_add (q_of (d_op (fun i => op_adds (F.hK i)) opd_add (q_of (d_op (fun i => op_adds (F.hK i)) opd_add (q_of (d_op (fun _ => op_mulA) opd_mul (q_of (d_var 5)) (q_of (d_var 5)))) (q_of (d_op (fun _ => op_mulA) opd_mul (q_of d_int) (q_of (d_var 5)))))) (q_of (d_var 6)))) (q_of d_int))) (q_of d_int)))
      (ss_one
      (s_if (w_pt (w_and (t_cmp (fun _ => op_gt) opd_gt (q_of (d_var 6)) (q_of d_int)) (w_and1 (t_cmp (fun _ => op_gt) opd_gt (q_of (d_var 4)) (q_of d_int))))) (ss_cons
      (have hE := (d_op (fun _ => op_mod) opd_mod (q_of (d_var 4)) (q_of (d_var 2))); s_app F 3 hE (mmIn rfl) (fun j => ps_expr (pe_bm PySem.F.plainAttrs_list PySem.F.slot_list_append PySem.F.type_list_append mt_append (pv 3) (pa_cons (hE.pe j) pa_nil))))
      (ss_one
      (s_set F 4 (d_op (fun _ => op_fdivW) opd_div (q_of (d_var 4)) (q_of (d_var 2)))))) (ss_one
      (s_if (t_cmp (fun _ => op_gt) opd_gt (q_of (d_var 6)) (q_of d_int)) (ss_one
      (have hE := (d_op (fun _ => op_mod) opd_mod (q_of (d_op (fun _ => op_fdivW) opd_div (q_of (d_var 5)) (q_of d_int))) (q_of (d_var 2))); s_app F 3 hE (mmIn rfl) (fun j => ps_expr (pe_bm PySem.F.plainAttrs_list PySem.F.slot_list_append PySem.F.type_list_append mt_append (pv 3) (pa_cons (hE.pe j) pa_nil))))) ss_nil))))))
      (ss_one
      (s_retO 3))))))
theorem sc_law_name : FnScope ["some", "taken", "letters", "size", "word", "k", "barred", "ways", "letter", "one"] ["some", "taken"] (defScope s_law_name) := ⟨rfl, rfl, rfl, by decide +kernel, rfl, by decide +kernel, by decide +kernel⟩
def lt1_law_name : En → Option Bool :=
    (mAndT (mTst (mBin (dIn true) (mVar 9) (mVar 1))) (mTst (mBin (dIn true) (mVar 9) (mSplit (mVar 6) (mC (.str " "))))))
def le1_law_name : En → Option PyData :=
    (mVar 9)
def le2_law_name : En → Option PyData :=
    (mBin dAdd (mBin dAdd (mSl (mVar 4) mNoPart (mPart (mC (.int 6)))) (mVar 8)) (mC (.str "z")))
def lb1_law_name : En → Option Fl :=
    (mSeq
    (mAsg (mBin dAdd (mVar 4) (mBin dIx (mVar 2) (mBin dMod (mVar 3) (mC (.int 26))))) (gB 4))
    (mAsg (mBin dDiv (mVar 3) (mC (.int 26))) (gB 3)))
def mb_law_name : En → Option Fl :=
    (mSeq
    (mAsg (mC (.str "abcdefghijklmnopqrstuvwxyz")) (gB 2))
    (mSeq
    (mAsg (mBin dAdd (mBin dMul (mBin dAdd (mBin dMul (mBin dAdd (mBin dMul (mBin dIx (mVar 0) (mC (.int 1))) (mC (.int 1000))) (mBin dIx (mVar 0) (mC (.int 2)))) (mC (.int 1000))) (mBin dIx (mVar 0) (mC (.int 3)))) (mC (.int 1000))) (mBin dIx (mVar 0) (mC (.int 4)))) (gB 3))
    (mSeq
    (mAsg (mC (.str "")) (gB 4))
    (mSeq
    (mFor (mRng rng1 (mCons (mBin dAdd (mC (.int 1)) (mBin dMod (mBin dIx (mVar 0) (mC (.int 0))) (mC (.int 8)))) mNil)) (gB 5) lb1_law_name)
    (mSeq
    (mAsg (mC (.str "rows view where keep named pairs both less count seal and or not mine empty loud yes has")) (gB 6))
    (mSeq
    (mAsg (mBin dAdd (mLst (mCons (mVar 4) mNil)) (mLc [8] (mIt (mVar 2)) (gB 8) mYes le2_law_name)) (gB 7))
    (mRet (mBin dIx (mLc [9] (mIt (mVar 7)) (gB 9) lt1_law_name le1_law_name) (mC (.int 0))))))))))
def fm_law_name : List PyData → Option PyData := runB 10 mb_law_name
theorem ok_law_name {P : Program} {w : World} {K : PySem.W.Frag} {mg : Str → Option Value} {base : Heap} (T : Txt K mg w)  : FnOk P w K mg base CX0 (1) T.f_law_name T.fd_law_name ["some", "taken"] (spD K JJ 2 fm_law_name) := by
  have F := defF_fam (P := P) (w := w) (K := K) (mg := mg) (base := base) (qual := "_law_name") (sc := defScope s_law_name) (f := T.f_law_name) (j := 0) sc_law_name.nd
  have hS := fun i => (rfl : (defF P w K mg base ["some", "taken", "letters", "size", "word", "k", "barred", "ways", "letter", "one"] "_law_name" (defScope s_law_name) T.f_law_name (0) i).env.scope = defScope s_law_name)
  exact fn_data (M := mJ []) T.F_law_name sc_law_name (mmAll rfl)
      (ss_cons
      (s_set F 2 d_str)
      (ss_cons
      (s_set F 3 (d_op (fun i => op_adds (F.hK i)) opd_add (q_of (d_op (fun _ => op_mulA) opd_mul (q_of (d_op (fun i => op_adds (F.hK i)) opd_add (q_of (d_op (fun _ => op_mulA) opd_mul (q_of (d_op (fun i => op_adds (F.hK i)) opd_add (q_of (d_op (fun _ => op_mulA) opd_mul (q_of (d_ix (fun i => ix_seqK (F.hK i)) opd_ix (q_of (d_var 0)) (q_of d_int))) (q_of d_int))) (q_of (d_ix (fun i => ix_seqK (F.hK i)) opd_ix (q_of (d_var 0)) (q_of d_int))))) (q_of d_int))) (q_of (d_ix (fun i => ix_seqK (F.hK i)) opd_ix (q_of (d_var 0)) (q_of d_int))))) (q_of d_int))) (q_of (d_ix (fun i => ix_seqK (F.hK i)) opd_ix (q_of (d_var 0)) (q_of d_int)))))
      (ss_cons
      (s_set F 4 d_str)
      (ss_cons
      (s_for F (fun _ => PassesOwn.never) (i_range1 (fun _ => T.n_range) (a_cons (d_op (fun i => op_adds (F.hK i)) opd_add (q_of d_int) (q_of (d_op (fun _ => op_mod) opd_mod (q_of (d_ix (fun i => ix_seqK (F.hK i)) opd_ix (q_of (d_var 0)) (q_of d_int))) (q_of d_int)))) a_nil)) (g_name F 5) (ss_cons
      (s_set F 4 (d_op (fun i => op_adds (F.hK i)) opd_add (q_of (d_var 4)) (q_of (d_ix (fun i => ix_seqK (F.hK i)) opd_ix (q_of (d_var 2)) (q_of (d_op (fun _ => op_mod) opd_mod (q_of (d_var 3)) (q_of d_int)))))))
      (ss_one
      (s_set F 3 (d_op (fun _ => op_fdivW) opd_div (q_of (d_var 3)) (q_of d_int))))))
      (ss_cons
      (s_set F 6 d_str)
      (ss_cons
      (s_set F 7 (d_op (fun i => op_adds (F.hK i)) opd_add (q_of (d_lst (a_cons (d_var 4) a_nil))) (q_of (d_lc F [("letter", 8)] (i_weak (i_seq F (d_var 2))) hS (blkOk_by (by decide +kernel)) (g_name (F.blk _) 8) gk_name ts_nil (d_op (fun i => op_adds ((F.blk _).hK i)) opd_add (q_of (d_op (fun i => op_adds ((F.blk _).hK i)) opd_add (q_of (d_sl (F.blk _) (q_of (d_var 4)) o_none (o_some d_int))) (q_of (d_var 8)))) (q_of d_str))))))
      (ss_one
      (s_ret (d_ix (fun i => ix_seqK (F.hK i)) opd_ix (q_of (d_lc F [("one", 9)] (i_weak (i_seq F (d_var 7))) hS (blkOk_by (by decide +kernel)) (g_name (F.blk _) 9) gk_name (ts_one (w_pt (w_and (t_cmp (fun i => op_notIns ((F.blk _).hK i) ((F.blk _).u65 i)) (opd_in true) (q_of (d_var 9)) (q_of (d_var 1))) (w_and1 (t_cmp (fun i => op_notIns ((F.blk _).hK i) ((F.blk _).u65 i)) (opd_in true) (q_of (d_var 9)) (q_of (d_split (d_var 6) d_str))))))) (d_var 9))) (q_of d_int))))))))))
theorem sc_law_columns : FnScope ["picks", "many", "top", "found", "room", "k", "some", "values", "empty", "one"] ["picks", "many", "top"] (defScope s_law_columns) := ⟨rfl, rfl, rfl, by decide +kernel, rfl, by decide +kernel, by decide +kernel⟩
def le1_law_columns : En → Option PyData :=
    (mBin dIx (mVar 9) (mC (.int 0)))
def lb1_law_columns : En → Option Fl :=
    (mSeq
    (mAsg (mSl (mVar 0) (mPart (mBin dMul (mC (.int 7)) (mVar 5))) (mPart (mBin dAdd (mBin dMul (mC (.int 7)) (mVar 5)) (mC (.int 7))))) (gB 6))
    (mSeq
    (mAsg (mBin dAdd (mC (.int 1)) (mBin dMod (mBin dIx (mVar 6) (mC (.int 5))) (mCB bMin2 (mCons (mC (.int 10)) (mCons (mBin dDiv (mVar 2) (mVar 4)) mNil))))) (gB 7))
    (mSeq
    (mAsg (mOr (mBin dEq (mVar 7) (mC (.int 10))) (mAnd (mBin dGt (mVar 7) (mC (.int 1))) (mBin dEq (mBin dMod (mBin dIx (mVar 6) (mC (.int 6))) (mC (.int 3))) (mC (.int 0))))) (gB 8))
    (mSeq
    (mApp 3 (mTup (mCons (mCB fm_law_name (mCons (mVar 6) (mCons (mLc [9] (mIt (mVar 3)) (gB 9) mYes le1_law_columns) mNil))) (mCons (mBin dSub (mVar 7) (mCB bInt (mCons (mVar 8) mNil))) (mCons (mVar 8) mNil)))))
    (mAsg (mBin dMul (mVar 4) (mVar 7)) (gB 4))))))
def mb_law_columns : En → Option Fl :=
    (mSeq
    (mAsg (mLst mNil) (gB 3))
    (mSeq
    (mAsg (mC (.int 1)) (gB 4))
    (mSeq
    (mFor (mRng rng1 (mCons (mVar 1) mNil)) (gB 5) lb1_law_columns)
    (mRet (mTup (mCons (mCB bTuple (mCons (mVar 3) mNil)) (mCons (mVar 4) mNil)))))))
def fm_law_columns : List PyData → Option PyData := runB 10 mb_law_columns
theorem ok_law_columns {P : Program} {w : World} {K : PySem.W.Frag} {mg : Str → Option Value} {base : Heap} (T : Txt K mg w) (G_law_name : FnOk P w K mg base CX0 (1) T.f_law_name T.fd_law_name ["some", "taken"] (spD K JJ 2 fm_law_name)) : FnOk P w K mg base CX0 (2) T.f_law_columns T.fd_law_columns ["picks", "many", "top"] (spD K JJ 3 fm_law_columns) := by
  have F := defF_fam (P := P) (w := w) (K := K) (mg := mg) (base := base) (qual := "_law_columns") (sc := defScope s_law_columns) (f := T.f_law_columns) (j := 1) sc_law_columns.nd
  have hS := fun i => (rfl : (defF P w K mg base ["picks", "many", "top", "found", "room", "k", "some", "values", "empty", "one"] "_law_columns" (defScope s_law_columns) T.f_law_columns (1) i).env.scope = defScope s_law_columns)
  exact fn_data (M := mJ [3]) T.F_law_columns sc_law_columns (mmAll rfl)
      (ss_cons
      (s_own F 3 f_nil)
      (ss_cons
      (s_set F 4 d_int)
      (ss_cons
      (s_for F (fun _ => PassesOwn.never) (i_range1 (fun _ => T.n_range) (a_cons (d_var 1) a_nil)) (g_name F 5) (ss_cons
      (s_set F 6 (d_sl F (q_of (d_var 0)) (o_some (d_op (fun _ => op_mulA) opd_mul (q_of d_int) (q_of (d_var 5)))) (o_some (d_op (fun i => op_adds (F.hK i)) opd_add (q_of (d_op (fun _ => op_mulA) opd_mul (q_of d_int) (q_of (d_var 5)))) (q_of d_int)))))
      (ss_cons
      (s_set F 7 (d_op (fun i => op_adds (F.hK i)) opd_add (q_of d_int) (q_of (d_op (fun _ => op_mod) opd_mod (q_of (d_ix (fun i => ix_seqK (F.hK i)) opd_ix (q_of (d_var 6)) (q_of d_int))) (q_of (d_cb (fun i => call_min2 (F.calm i)) crd_min2 (fun _ => T.n_min) (by decide +kernel) (b_cons (q_of d_int) (b_cons (q_of (d_op (fun _ => op_fdivW) opd_div (q_of (d_var 2)) (q_of (d_var 4)))) b_nil))))))))
      (ss_cons
      (s_set F 8 (d_or F (d_cmp (fun i => op_eqK (F.hK i) (F.u64 i)) opd_eq (q_of (d_var 7)) (q_of d_int)) (d_one (d_and F (d_cmp (fun _ => op_gt) opd_gt (q_of (d_var 7)) (q_of d_int)) (d_one (d_cmp (fun i => op_eqK (F.hK i) (F.u64 i)) opd_eq (q_of (d_op (fun _ => op_mod) opd_mod (q_of (d_ix (fun i => ix_seqK (F.hK i)) opd_ix (q_of (d_var 6)) (q_of d_int))) (q_of d_int))) (q_of d_int)))))))
      (ss_cons
      (have hE := (d_tup (a_cons (d_call (fun _ => G_law_name) (fun i => (F.room i).mono (by omega)) (fun _ => T.g_law_name) (fun _ => T.k_law_name) (fun _ => T.b_law_name) (a_cons (d_var 6) (a_cons (d_lc F [("one", 9)] (i_own F (q_var 3)) hS (blkOk_by (by decide +kernel)) (g_name (F.blk _) 9) gk_name ts_nil (d_ix (fun i => ix_seqK ((F.blk _).hK i)) opd_ix (q_of (d_var 9)) (q_of d_int))) a_nil)) (len_cons (len_cons len_nil))) (a_cons (d_op (fun _ => op_sub) opd_sub (q_of (d_var 7)) (q_of (d_ty (fun _ => call_int1) crd_int (fun _ => T.n_int) (by decide +kernel) (b_cons (q_of (d_var 8)) b_nil)))) (a_cons (d_var 8) a_nil)))); s_app F 3 hE (mmIn rfl) (fun j => ps_expr (pe_bm PySem.F.plainAttrs_list PySem.F.slot_list_append PySem.F.type_list_append mt_append (pv 3) (pa_cons (hE.pe j) pa_nil))))
      (ss_one
      (s_set F 4 (d_op (fun _ => op_mulA) opd_mul (q_of (d_var 4)) (q_of (d_var 7))))))))))
      (ss_one
      (s_ret (d_tup (a_cons (d_ty (fun i => cr_tuple (F.hK i)) crd_tuple (fun _ => T.n_tuple) (by decide +kernel) (b_cons (q_var 3) b_nil)) (a_cons (d_var 4) a_nil))))))))
theorem sc_law_ground : FnScope ["picks", "top", "found", "left", "k", "some", "key", "name", "columns", "room", "one"] ["picks", "top"] (defScope s_law_ground) := ⟨rfl, rfl, rfl, by decide +kernel, rfl, by decide +kernel, by decide +kernel⟩
def le1_law_ground : En → Option PyData :=
    (mBin dIx (mVar 10) (mC (.int 0)))
def le2_law_ground : En → Option PyData :=
    (mBin dIx (mVar 10) (mC (.int 2)))
def le3_law_ground : En → Option PyData :=
    (mBin dIx (mVar 10) (mC (.int 2)))
def lb1_law_ground : En → Option Fl :=
    (mSeq
    (mAsg (mSl (mVar 0) (mPart (mBin dAdd (mC (.int 1)) (mBin dMul (mC (.int 36)) (mVar 4)))) (mPart (mBin dAdd (mC (.int 37)) (mBin dMul (mC (.int 36)) (mVar 4))))) (gB 5))
    (mIfS (mTst (mBin dGt (mVar 3) (mC (.int 0)))) (mSeq
    (mAsg (mCB fm_law_columns (mCons (mSl (mVar 5) (mPart (mC (.int 7))) mNoPart) (mCons (mBin dAdd (mC (.int 1)) (mBin dMod (mBin dIx (mVar 5) (mC (.int 5))) (mC (.int 4)))) (mCons (mVar 3) mNil)))) (gT 2 (gsC (gB 8) (gsC (gB 9) gsN))))
    (mSeq
    (mAsg (mIf (mTru (mCB bAny (mCons (mLc [10] (mIt (mVar 8)) (gB 10) mYes le2_law_ground) mNil))) (mIndex (mLc [10] (mIt (mVar 8)) (gB 10) mYes le3_law_ground) (mC (.bool true))) (mCB bLen (mCons (mVar 8) mNil))) (gB 6))
    (mSeq
    (mAsg (mCB fm_law_name (mCons (mVar 5) (mCons (mLc [10] (mIt (mVar 2)) (gB 10) mYes le1_law_ground) mNil))) (gB 7))
    (mSeq
    (mApp 2 (mTup (mCons (mVar 7) (mCons (mBin dMod (mBin dIx (mVar 5) (mC (.int 6))) (mBin dAdd (mVar 6) (mC (.int 1)))) (mCons (mVar 8) mNil)))))
    (mAsg (mBin dSub (mVar 3) (mVar 9)) (gB 3)))))) mNext))
def mb_law_ground : En → Option Fl :=
    (mSeq
    (mAsg (mLst mNil) (gB 2))
    (mSeq
    (mAsg (mVar 1) (gB 3))
    (mSeq
    (mFor (mRng rng1 (mCons (mBin dAdd (mC (.int 1)) (mBin dMod (mBin dIx (mVar 0) (mC (.int 0))) (mC (.int 4)))) mNil)) (gB 4) lb1_law_ground)
    (mRet (mCB bTuple (mCons (mCB bSorted (mCons (mVar 2) mNil)) mNil))))))
def fm_law_ground : List PyData → Option PyData := runB 11 mb_law_ground
theorem ok_law_ground {P : Program} {w : World} {K : PySem.W.Frag} {mg : Str → Option Value} {base : Heap} (T : Txt K mg w) (G_law_name : FnOk P w K mg base CX0 (1) T.f_law_name T.fd_law_name ["some", "taken"] (spD K JJ 2 fm_law_name)) (G_law_columns : FnOk P w K mg base CX0 (2) T.f_law_columns T.fd_law_columns ["picks", "many", "top"] (spD K JJ 3 fm_law_columns)) : FnOk P w K mg base CX0 (3) T.f_law_ground T.fd_law_ground ["picks", "top"] (spD K JJ 2 fm_law_ground) := by
  have F := defF_fam (P := P) (w := w) (K := K) (mg := mg) (base := base) (qual := "_law_ground") (sc := defScope s_law_ground) (f := T.f_law_ground) (j := 2) sc_law_ground.nd
  have hS := fun i => (rfl : (defF P w K mg base ["picks", "top", "found", "left", "k", "some", "key", "name", "columns", "room", "one"] "_law_ground" (defScope s_law_ground) T.f_law_ground (2) i).env.scope = defScope s_law_ground)
  exact fn_data (M := mJ [2]) T.F_law_ground sc_law_ground (mmAll rfl)
      (ss_cons
      (s_own F 2 f_nil)
      (ss_cons
      (s_set F 3 (d_var 1))
      (ss_cons
      (s_for F (fun _ => PassesOwn.never) (i_range1 (fun _ => T.n_range) (a_cons (d_op (fun i => op_adds (F.hK i)) opd_add (q_of d_int) (q_of (d_op (fun _ => op_mod) opd_mod (q_of (d_ix (fun i => ix_seqK (F.hK i)) opd_ix (q_of (d_var 0)) (q_of d_int))) (q_of d_int)))) a_nil)) (g_name F 4) (ss_cons
      (s_set F 5 (d_sl F (q_of (d_var 0)) (o_some (d_op (fun i => op_adds (F.hK i)) opd_add (q_of d_int) (q_of (d_op (fun _ => op_mulA) opd_mul (q_of d_int) (q_of (d_var 4)))))) (o_some (d_op (fun i => op_adds (F.hK i)) opd_add (q_of d_int) (q_of (d_op (fun _ => op_mulA) opd_mul (q_of d_int) (q_of (d_var 4))))))))
      (ss_one
      (s_if (t_cmp (fun _ => op_gt) opd_gt (q_of (d_var 3)) (q_of d_int)) (ss_cons
      (s_asg (d_call (fun _ => G_law_columns) (fun i => (F.room i).mono (by omega)) (fun _ => T.g_law_columns) (fun _ => T.k_law_columns) (fun _ => T.b_law_columns) (a_cons (d_sl F (q_of (d_var 5)) (o_some d_int) o_none) (a_cons (d_op (fun i => op_adds (F.hK i)) opd_add (q_of d_int) (q_of (d_op (fun _ => op_mod) opd_mod (q_of (d_ix (fun i => ix_seqK (F.hK i)) opd_ix (q_of (d_var 5)) (q_of d_int))) (q_of d_int)))) (a_cons (d_var 3) a_nil))) (len_cons (len_cons (len_cons len_nil)))) (g_tup F (gs_cons (g_name F 8) (gs_cons (g_name F 9) gs_nil))))
      (ss_cons
      (s_set F 6 (d_if (t_tru F (q_of (d_cb (fun i => cr_anyK (F.hK i) (F.calm i)) crd_any (fun _ => T.n_any) (by decide +kernel) (b_cons (q_of (d_lc F [("one", 10)] (i_weak (i_seq F (d_var 8))) hS (blkOk_by (by decide +kernel)) (g_name (F.blk _) 10) gk_name ts_nil (d_ix (fun i => ix_seqK ((F.blk _).hK i)) opd_ix (q_of (d_var 10)) (q_of d_int)))) b_nil)))) (have hA := (q_of (d_lc F [("one", 10)] (i_weak (i_seq F (d_var 8))) hS (blkOk_by (by decide +kernel)) (g_name (F.blk _) 10) gk_name ts_nil (d_ix (fun i => ix_seqK ((F.blk _).hK i)) opd_ix (q_of (d_var 10)) (q_of d_int)))); have hB := (q_of d_bl); d_index F hA hB (fun j => pe_bm PySem.F.plainAttrs_list PySem.F.slot_list_index PySem.F.type_list_index (mt_indexD (F.u65 j)) (hA.pe j) (pa_cons (hB.pe j) pa_nil))) (d_cb (fun i => cr_len (F.hK i)) crd_len (fun _ => T.n_len) (by decide +kernel) (b_cons (q_of (d_var 8)) b_nil))))
      (ss_cons
      (s_set F 7 (d_call (fun _ => G_law_name) (fun i => (F.room i).mono (by omega)) (fun _ => T.g_law_name) (fun _ => T.k_law_name) (fun _ => T.b_law_name) (a_cons (d_var 5) (a_cons (d_lc F [("one", 10)] (i_own F (q_var 2)) hS (blkOk_by (by decide +kernel)) (g_name (F.blk _) 10) gk_name ts_nil (d_ix (fun i => ix_seqK ((F.blk _).hK i)) opd_ix (q_of (d_var 10)) (q_of d_int))) a_nil)) (len_cons (len_cons len_nil))))
      (ss_cons
      (have hE := (d_tup (a_cons (d_var 7) (a_cons (d_op (fun _ => op_mod) opd_mod (q_of (d_ix (fun i => ix_seqK (F.hK i)) opd_ix (q_of (d_var 5)) (q_of d_int))) (q_of (d_op (fun i => op_adds (F.hK i)) opd_add (q_of (d_var 6)) (q_of d_int)))) (a_cons (d_var 8) a_nil)))); s_app F 2 hE (mmIn rfl) (fun j => ps_expr (pe_bm PySem.F.plainAttrs_list PySem.F.slot_list_append PySem.F.type_list_append mt_append (pv 2) (pa_cons (hE.pe j) pa_nil))))
      (ss_one
      (s_set F 3 (d_op (fun _ => op_sub) opd_sub (q_of (d_var 3)) (q_of (d_var 9))))))))) ss_nil))))
      (ss_one
      (s_ret (d_ty (fun i => cr_tuple (F.hK i)) crd_tuple (fun _ => T.n_tuple) (by decide +kernel) (b_cons (q_of (d_cb (fun i => cr_sortK (F.hK i) (F.u70 i)) crd_sorted (fun _ => T.n_sorted) (by decide +kernel) (b_cons (q_var 2) b_nil))) b_nil)))))))
theorem sc_law_atom : FnScope ["picks", "columns", "ways", "words", "word", "column", "value"] ["picks", "columns", "ways"] (defScope s_law_atom) := ⟨rfl, rfl, rfl, by decide +kernel, rfl, by decide +kernel, by decide +kernel⟩
def mb_law_atom : En → Option Fl :=
    (mSeq
    (mAsg (mBin dAdd (mLst (mCons (mC (.str "is")) (mCons (mC (.str "below")) (mCons (mC (.str "same")) (mCons (mC (.str "empty")) (mCons (mC (.str "is")) (mCons (mC (.str "below")) (mCons (mC (.str "yes")) mNil)))))))) (mRep (mCons (mC (.str "mine")) mNil) (mCount (mVar 2) (mC (.str "m"))))) (gB 3))
    (mSeq
    (mAsg (mBin dAdd (mVar 3) (mRep (mCons (mC (.str "loud")) (mCons (mC (.str "loud")) (mCons (mC (.str "loud")) mNil))) (mCount (mVar 2) (mC (.str "l"))))) (gB 3))
    (mSeq
    (mAsg (mBin dIx (mVar 3) (mBin dMod (mBin dIx (mVar 0) (mC (.int 0))) (mCB bLen (mCons (mVar 3) mNil)))) (gB 4))
    (mSeq
    (mAsg (mBin dIx (mVar 1) (mBin dMod (mBin dIx (mVar 0) (mC (.int 1))) (mCB bLen (mCons (mVar 1) mNil)))) (gB 5))
    (mSeq
    (mIfS (mTst (mBin dEq (mVar 4) (mC (.str "yes")))) (mRet (mTup (mCons (mVar 4) mNil))) mNext)
    (mSeq
    (mIfS (mTst (mBin dEq (mVar 4) (mC (.str "same")))) (mRet (mTup (mCons (mVar 4) (mCons (mVar 5) (mCons (mBin dIx (mVar 1) (mBin dMod (mBin dIx (mVar 0) (mC (.int 2))) (mCB bLen (mCons (mVar 1) mNil)))) mNil))))) mNext)
    (mSeq
    (mIfS (mTst (mBin (dIn false) (mVar 4) (mTup (mCons (mC (.str "is")) (mCons (mC (.str "below")) mNil))))) (mSeq
    (mAsg (mBin dIx (mLst (mCons (mBin dMod (mBin dIx (mVar 0) (mC (.int 3))) (mC (.int 3))) (mCons (mBin dMod (mBin dIx (mVar 0) (mC (.int 3))) (mC (.int 10))) mNil))) (mBin dMod (mBin dIx (mVar 0) (mC (.int 4))) (mC (.int 2)))) (gB 6))
    (mRet (mTup (mCons (mVar 4) (mCons (mVar 5) (mCons (mBin dAdd (mVar 6) (mCB bInt (mCons (mAnd (mBin dEq (mVar 4) (mC (.str "below"))) (mBin dEq (mBin dMod (mBin dIx (mVar 0) (mC (.int 5))) (mC (.int 2))) (mC (.int 0)))) mNil))) mNil)))))) mNext)
    (mRet (mTup (mCons (mVar 4) (mCons (mVar 5) mNil)))))))))))
def fm_law_atom : List PyData → Option PyData := runB 7 mb_law_atom
theorem ok_law_atom {P : Program} {w : World} {K : PySem.W.Frag} {mg : Str → Option Value} {base : Heap} (T : Txt K mg w)  : FnOk P w K mg base CX0 (1) T.f_law_atom T.fd_law_atom ["picks", "columns", "ways"] (spD K JJ 3 fm_law_atom) := by
  have F := defF_fam (P := P) (w := w) (K := K) (mg := mg) (base := base) (qual := "_law_atom") (sc := defScope s_law_atom) (f := T.f_law_atom) (j := 0) sc_law_atom.nd
  have hS := fun i => (rfl : (defF P w K mg base ["picks", "columns", "ways", "words", "word", "column", "value"] "_law_atom" (defScope s_law_atom) T.f_law_atom (0) i).env.scope = defScope s_law_atom)
  exact fn_data (M := mJ []) T.F_law_atom sc_law_atom (mmAll rfl)
      (ss_cons
      (s_set F 3 (d_op (fun i => op_adds (F.hK i)) opd_add (q_of (d_lst (a_cons d_str (a_cons d_str (a_cons d_str (a_cons d_str (a_cons d_str (a_cons d_str (a_cons d_str a_nil))))))))) (q_of (d_rep (a_cons d_str a_nil) (d_count (d_var 2) d_str)))))
      (ss_cons
      (s_set F 3 (d_op (fun i => op_adds (F.hK i)) opd_add (q_of (d_var 3)) (q_of (d_rep (a_cons d_str (a_cons d_str (a_cons d_str a_nil))) (d_count (d_var 2) d_str)))))
      (ss_cons
      (s_set F 4 (d_ix (fun i => ix_seqK (F.hK i)) opd_ix (q_of (d_var 3)) (q_of (d_op (fun _ => op_mod) opd_mod (q_of (d_ix (fun i => ix_seqK (F.hK i)) opd_ix (q_of (d_var 0)) (q_of d_int))) (q_of (d_cb (fun i => cr_len (F.hK i)) crd_len (fun _ => T.n_len) (by decide +kernel) (b_cons (q_of (d_var 3)) b_nil)))))))
      (ss_cons
      (s_set F 5 (d_ix (fun i => ix_seqK (F.hK i)) opd_ix (q_of (d_var 1)) (q_of (d_op (fun _ => op_mod) opd_mod (q_of (d_ix (fun i => ix_seqK (F.hK i)) opd_ix (q_of (d_var 0)) (q_of d_int))) (q_of (d_cb (fun i => cr_len (F.hK i)) crd_len (fun _ => T.n_len) (by decide +kernel) (b_cons (q_of (d_var 1)) b_nil)))))))
      (ss_cons
      (s_if (t_cmp (fun i => op_eqK (F.hK i) (F.u64 i)) opd_eq (q_of (d_var 4)) (q_of d_str)) (ss_one
      (s_ret (d_tup (a_cons (d_var 4) a_nil)))) ss_nil)
      (ss_cons
      (s_if (t_cmp (fun i => op_eqK (F.hK i) (F.u64 i)) opd_eq (q_of (d_var 4)) (q_of d_str)) (ss_one
      (s_ret (d_tup (a_cons (d_var 4) (a_cons (d_var 5) (a_cons (d_ix (fun i => ix_seqK (F.hK i)) opd_ix (q_of (d_var 1)) (q_of (d_op (fun _ => op_mod) opd_mod (q_of (d_ix (fun i => ix_seqK (F.hK i)) opd_ix (q_of (d_var 0)) (q_of d_int))) (q_of (d_cb (fun i => cr_len (F.hK i)) crd_len (fun _ => T.n_len) (by decide +kernel) (b_cons (q_of (d_var 1)) b_nil)))))) a_nil)))))) ss_nil)
      (ss_cons
      (s_if (t_cmp (fun i => op_ins (F.hK i) (F.u65 i)) (opd_in false) (q_of (d_var 4)) (q_of (d_tup (a_cons d_str (a_cons d_str a_nil))))) (ss_cons
      (s_set F 6 (d_ix (fun i => ix_seqK (F.hK i)) opd_ix (q_of (d_lst (a_cons (d_op (fun _ => op_mod) opd_mod (q_of (d_ix (fun i => ix_seqK (F.hK i)) opd_ix (q_of (d_var 0)) (q_of d_int))) (q_of d_int)) (a_cons (d_op (fun _ => op_mod) opd_mod (q_of (d_ix (fun i => ix_seqK (F.hK i)) opd_ix (q_of (d_var 0)) (q_of d_int))) (q_of d_int)) a_nil)))) (q_of (d_op (fun _ => op_mod) opd_mod (q_of (d_ix (fun i => ix_seqK (F.hK i)) opd_ix (q_of (d_var 0)) (q_of d_int))) (q_of d_int)))))
      (ss_one
      (s_ret (d_tup (a_cons (d_var 4) (a_cons (d_var 5) (a_cons (d_op (fun i => op_adds (F.hK i)) opd_add (q_of (d_var 6)) (q_of (d_ty (fun _ => call_int1) crd_int (fun _ => T.n_int) (by decide +kernel) (b_cons (q_of (d_and F (d_cmp (fun i => op_eqK (F.hK i) (F.u64 i)) opd_eq (q_of (d_var 4)) (q_of d_str)) (d_one (d_cmp (fun i => op_eqK (F.hK i) (F.u64 i)) opd_eq (q_of (d_op (fun _ => op_mod) opd_mod (q_of (d_ix (fun i => ix_seqK (F.hK i)) opd_ix (q_of (d_var 0)) (q_of d_int))) (q_of d_int))) (q_of d_int))))) b_nil)))) a_nil))))))) ss_nil)
      (ss_one
      (s_ret (d_tup (a_cons (d_var 4) (a_cons (d_var 5) a_nil))))))))))))
theorem sc_law_condition : FnScope ["picks", "parts", "ground", "columns", "ways", "words", "word", "left", "one", "table", "names", "inner", "column"] ["picks", "parts", "ground", "columns", "ways"] (defScope s_law_condition) := ⟨rfl, rfl, rfl, by decide +kernel, rfl, by decide +kernel, by decide +kernel⟩
def le1_law_condition (self : List PyData → Option PyData) : En → Option PyData :=
    (mBin dIx (mVar 12) (mC (.int 0)))
def mb_law_condition (self : List PyData → Option PyData) : En → Option Fl :=
    (mSeq
    (mIfS (mTst (mBin dLt (mVar 1) (mC (.int 2)))) (mRet (mCB fm_law_atom (mCons (mVar 0) (mCons (mVar 3) (mCons (mVar 4) mNil))))) mNext)
    (mSeq
    (mAsg (mBin dAdd (mBin dAdd (mLst (mCons (mC (.str "not")) mNil)) (mRep (mCons (mC (.str "and")) (mCons (mC (.str "or")) (mCons (mC (.str "and")) (mCons (mC (.str "or")) mNil)))) (mCB bInt (mCons (mBin dGt (mVar 1) (mC (.int 2))) mNil)))) (mRep (mCons (mC (.str "has")) mNil) (mCount (mVar 4) (mC (.str "h"))))) (gB 5))
    (mSeq
    (mAsg (mBin dIx (mVar 5) (mBin dMod (mBin dIx (mVar 0) (mC (.int 0))) (mCB bLen (mCons (mVar 5) mNil)))) (gB 6))
    (mSeq
    (mIfS (mTst (mBin dEq (mVar 6) (mC (.str "has")))) (mSeq
    (mAsg (mBin dIx (mVar 2) (mBin dMod (mBin dIx (mVar 0) (mC (.int 1))) (mCB bLen (mCons (mVar 2) mNil)))) (gB 9))
    (mSeq
    (mAsg (mLc [12] (mIt (mBin dIx (mVar 9) (mC (.int 2)))) (gB 12) mYes (le1_law_condition self)) (gB 10))
    (mSeq
    (mAsg (mCB self (mCons (mSl (mVar 0) (mPart (mC (.int 6))) mNoPart) (mCons (mBin dSub (mVar 1) (mC (.int 1))) (mCons (mVar 2) (mCons (mVar 10) (mCons (mRepl "h" "" (mVar 4)) mNil)))))) (gB 11))
    (mRet (mTup (mCons (mVar 6) (mCons (mBin dIx (mVar 9) (mC (.int 0))) (mCons (mBin dIx (mVar 3) (mBin dMod (mBin dIx (mVar 0) (mC (.int 2))) (mCB bLen (mCons (mVar 3) mNil)))) (mCons (mBin dIx (mVar 10) (mBin dMod (mBin dIx (mVar 0) (mC (.int 3))) (mCB bLen (mCons (mVar 10) mNil)))) (mCons (mVar 11) mNil)))))))))) mNext)
    (mSeq
    (mIfS (mTst (mBin dEq (mVar 6) (mC (.str "not")))) (mRet (mTup (mCons (mVar 6) (mCons (mCB self (mCons (mSl (mVar 0) (mPart (mC (.int 6))) mNoPart) (mCons (mBin dSub (mVar 1) (mC (.int 1))) (mCons (mVar 2) (mCons (mVar 3) (mCons (mVar 4) mNil)))))) mNil)))) mNext)
    (mSeq
    (mAsg (mBin dAdd (mC (.int 1)) (mBin dMod (mBin dIx (mVar 0) (mC (.int 1))) (mBin dSub (mVar 1) (mC (.int 2))))) (gB 7))
    (mSeq
    (mAsg (mCB self (mCons (mSl (mVar 0) (mPart (mC (.int 6))) (mPart (mBin dAdd (mC (.int 6)) (mBin dMul (mC (.int 6)) (mVar 7))))) (mCons (mVar 7) (mCons (mVar 2) (mCons (mVar 3) (mCons (mVar 4) mNil)))))) (gB 8))
    (mRet (mTup (mCons (mVar 6) (mCons (mVar 8) (mCons (mCB self (mCons (mSl (mVar 0) (mPart (mBin dAdd (mC (.int 6)) (mBin dMul (mC (.int 6)) (mVar 7)))) mNoPart) (mCons (mBin dSub (mBin dSub (mVar 1) (mC (.int 1))) (mVar 7)) (mCons (mVar 2) (mCons (mVar 3) (mCons (mVar 4) mNil)))))) mNil))))))))))))
def fm_law_condition : Nat → List PyData → Option PyData
  | 0 => fun _ => none
  | n + 1 => runB 13 (mb_law_condition (fm_law_condition n))
theorem ok_law_condition {P : Program} {w : World} {K : PySem.W.Frag} {mg : Str → Option Value} {base : Heap} (T : Txt K mg w) (G_law_atom : FnOk P w K mg base CX0 (1) T.f_law_atom T.fd_law_atom ["picks", "columns", "ways"] (spD K JJ 3 fm_law_atom)) : ∀ n, FnOk P w K mg base CX0 (2 + n) T.f_law_condition T.fd_law_condition ["picks", "parts", "ground", "columns", "ways"] (spD K JJ 5 (fm_law_condition n))
  | 0 => fn_none T.F_law_condition sc_law_condition (fun _ => rfl)
  | n + 1 => by
    have GS := ok_law_condition (P := P) (w := w) (base := base) T G_law_atom n
    have F := defF_fam (P := P) (w := w) (K := K) (mg := mg) (base := base) (qual := "_law_condition") (sc := defScope s_law_condition) (f := T.f_law_condition) (j := 2 + n) sc_law_condition.nd
    have hS := fun i => (rfl : (defF P w K mg base ["picks", "parts", "ground", "columns", "ways", "words", "word", "left", "one", "table", "names", "inner", "column"] "_law_condition" (defScope s_law_condition) T.f_law_condition (2 + n) i).env.scope = defScope s_law_condition)
    exact fn_dataT (M := mJ []) T.F_law_condition sc_law_condition (by decide +kernel) (by decide) (mmAll rfl)
      (sst_cons
      (st_of (s_if (t_cmp (fun i => op_ltAll (F.hK i) (F.u64 i)) opd_lt (q_of (d_var 1)) (q_of d_int)) (ss_one
      (s_ret (d_call (fun _ => G_law_atom) (fun i => (F.room i).mono (by omega)) (fun _ => T.g_law_atom) (fun _ => T.k_law_atom) (fun _ => T.b_law_atom) (a_cons (d_var 0) (a_cons (d_var 3) (a_cons (d_var 4) a_nil))) (len_cons (len_cons (len_cons len_nil)))))) ss_nil))
      (sst_cons
      (st_of (s_set F 5 (d_op (fun i => op_adds (F.hK i)) opd_add (q_of (d_op (fun i => op_adds (F.hK i)) opd_add (q_of (d_lst (a_cons d_str a_nil))) (q_of (d_rep (a_cons d_str (a_cons d_str (a_cons d_str (a_cons d_str a_nil)))) (d_ty (fun _ => call_int1) crd_int (fun _ => T.n_int) (by decide +kernel) (b_cons (q_of (d_cmp (fun _ => op_gt) opd_gt (q_of (d_var 1)) (q_of d_int))) b_nil)))))) (q_of (d_rep (a_cons d_str a_nil) (d_count (d_var 4) d_str))))))
      (sst_cons
      (st_of (s_set F 6 (d_ix (fun i => ix_seqK (F.hK i)) opd_ix (q_of (d_var 5)) (q_of (d_op (fun _ => op_mod) opd_mod (q_of (d_ix (fun i => ix_seqK (F.hK i)) opd_ix (q_of (d_var 0)) (q_of d_int))) (q_of (d_cb (fun i => cr_len (F.hK i)) crd_len (fun _ => T.n_len) (by decide +kernel) (b_cons (q_of (d_var 5)) b_nil))))))))
      (sst_cons
      (st_if (t_cmp (fun i => op_eqK (F.hK i) (F.u64 i)) opd_eq (q_of (d_var 6)) (q_of d_str)) (sst_cons
      (st_of (s_set F 9 (d_ix (fun i => ix_seqK (F.hK i)) opd_ix (q_of (d_var 2)) (q_of (d_op (fun _ => op_mod) opd_mod (q_of (d_ix (fun i => ix_seqK (F.hK i)) opd_ix (q_of (d_var 0)) (q_of d_int))) (q_of (d_cb (fun i => cr_len (F.hK i)) crd_len (fun _ => T.n_len) (by decide +kernel) (b_cons (q_of (d_var 2)) b_nil))))))))
      (sst_cons
      (st_of (s_setLc F 10 [("column", 12)] (i_weak (i_seq F (d_ix (fun i => ix_seqK (F.hK i)) opd_ix (q_of (d_var 9)) (q_of d_int)))) hS (blkOk_by (by decide +kernel)) (g_name (F.blk _) 12) gk_name ts_nil (d_ix (fun i => ix_seqK ((F.blk _).hK i)) opd_ix (q_of (d_var 12)) (q_of d_int))))
      (sst_cons
      (st_set F 11 (dt_call (fun _ => GS) (fun i => (F.room i).mono (by omega)) (fun _ => T.g_law_condition) (fun _ => T.k_law_condition) (fun _ => T.b_law_condition) (at_cons (dt_of (d_sl F (q_of (d_var 0)) (o_some d_int) o_none)) (at_cons (dt_of (d_op (fun _ => op_sub) opd_sub (q_of (d_var 1)) (q_of d_int))) (at_cons (dt_of (d_var 2)) (at_cons (dt_of (d_var 10)) (at_cons (dt_repl (d_var 4)) at_nil))))) (len_cons (len_cons (len_cons (len_cons (len_cons len_nil)))))))
      (sst_one
      (st_of (s_ret (d_tup (a_cons (d_var 6) (a_cons (d_ix (fun i => ix_seqK (F.hK i)) opd_ix (q_of (d_var 9)) (q_of d_int)) (a_cons (d_ix (fun i => ix_seqK (F.hK i)) opd_ix (q_of (d_var 3)) (q_of (d_op (fun _ => op_mod) opd_mod (q_of (d_ix (fun i => ix_seqK (F.hK i)) opd_ix (q_of (d_var 0)) (q_of d_int))) (q_of (d_cb (fun i => cr_len (F.hK i)) crd_len (fun _ => T.n_len) (by decide +kernel) (b_cons (q_of (d_var 3)) b_nil)))))) (a_cons (d_ix (fun i => ix_seqK (F.hK i)) opd_ix (q_of (d_var 10)) (q_of (d_op (fun _ => op_mod) opd_mod (q_of (d_ix (fun i => ix_seqK (F.hK i)) opd_ix (q_of (d_var 0)) (q_of d_int))) (q_of (d_cb (fun i => cr_len (F.hK i)) crd_len (fun _ => T.n_len) (by decide +kernel) (b_cons (q_of (d_var 10)) b_nil)))))) (a_cons (d_var 11) a_nil)))))))))))) sst_nil)
      (sst_cons
      (st_of (s_if (t_cmp (fun i => op_eqK (F.hK i) (F.u64 i)) opd_eq (q_of (d_var 6)) (q_of d_str)) (ss_one
      (s_ret (d_tup (a_cons (d_var 6) (a_cons (d_call (fun _ => GS) (fun i => (F.room i).mono (by omega)) (fun _ => T.g_law_condition) (fun _ => T.k_law_condition) (fun _ => T.b_law_condition) (a_cons (d_sl F (q_of (d_var 0)) (o_some d_int) o_none) (a_cons (d_op (fun _ => op_sub) opd_sub (q_of (d_var 1)) (q_of d_int)) (a_cons (d_var 2) (a_cons (d_var 3) (a_cons (d_var 4) a_nil))))) (len_cons (len_cons (len_cons (len_cons (len_cons len_nil)))))) a_nil))))) ss_nil))
      (sst_cons
      (st_of (s_set F 7 (d_op (fun i => op_adds (F.hK i)) opd_add (q_of d_int) (q_of (d_op (fun _ => op_mod) opd_mod (q_of (d_ix (fun i => ix_seqK (F.hK i)) opd_ix (q_of (d_var 0)) (q_of d_int))) (q_of (d_op (fun _ => op_sub) opd_sub (q_of (d_var 1)) (q_of d_int))))))))
      (sst_cons
      (st_of (s_set F 8 (d_call (fun _ => GS) (fun i => (F.room i).mono (by omega)) (fun _ => T.g_law_condition) (fun _ => T.k_law_condition) (fun _ => T.b_law_condition) (a_cons (d_sl F (q_of (d_var 0)) (o_some d_int) (o_some (d_op (fun i => op_adds (F.hK i)) opd_add (q_of d_int) (q_of (d_op (fun _ => op_mulA) opd_mul (q_of d_int) (q_of (d_var 7))))))) (a_cons (d_var 7) (a_cons (d_var 2) (a_cons (d_var 3) (a_cons (d_var 4) a_nil))))) (len_cons (len_cons (len_cons (len_cons (len_cons len_nil))))))))
      (sst_one
      (st_of (s_ret (d_tup (a_cons (d_var 6) (a_cons (d_var 8) (a_cons (d_call (fun _ => GS) (fun i => (F.room i).mono (by omega)) (fun _ => T.g_law_condition) (fun _ => T.k_law_condition) (fun _ => T.b_law_condition) (a_cons (d_sl F (q_of (d_var 0)) (o_some (d_op (fun i => op_adds (F.hK i)) opd_add (q_of d_int) (q_of (d_op (fun _ => op_mulA) opd_mul (q_of d_int) (q_of (d_var 7)))))) o_none) (a_cons (d_op (fun _ => op_sub) opd_sub (q_of (d_op (fun _ => op_sub) opd_sub (q_of (d_var 1)) (q_of d_int))) (q_of (d_var 7))) (a_cons (d_var 2) (a_cons (d_var 3) (a_cons (d_var 4) a_nil))))) (len_cons (len_cons (len_cons (len_cons (len_cons len_nil)))))) a_nil))))))))))))))
theorem sc_law_new_names : FnScope ["picks", "many", "taken", "found", "k"] ["picks", "many", "taken"] (defScope s_law_new_names) := ⟨rfl, rfl, rfl, by decide +kernel, rfl, by decide +kernel, by decide +kernel⟩
def lb1_law_new_names : En → Option Fl :=
    (mApp 3 (mCB fm_law_name (mCons (mSl (mVar 0) (mPart (mVar 4)) mNoPart) (mCons (mBin dAdd (mVar 2) (mVar 3)) mNil))))
def mb_law_new_names : En → Option Fl :=
    (mSeq
    (mAsg (mLst mNil) (gB 3))
    (mSeq
    (mFor (mRng rng1 (mCons (mVar 1) mNil)) (gB 4) lb1_law_new_names)
    (mRet (mCB bTuple (mCons (mVar 3) mNil)))))
def fm_law_new_names : List PyData → Option PyData := runB 5 mb_law_new_names
theorem ok_law_new_names {P : Program} {w : World} {K : PySem.W.Frag} {mg : Str → Option Value} {base : Heap} (T : Txt K mg w) (G_law_name : FnOk P w K mg base CX0 (1) T.f_law_name T.fd_law_name ["some", "taken"] (spD K JJ 2 fm_law_name)) : FnOk P w K mg base CX0 (2) T.f_law_new_names T.fd_law_new_names ["picks", "many", "taken"] (spD K JJ 3 fm_law_new_names) := by
  have F := defF_fam (P := P) (w := w) (K := K) (mg := mg) (base := base) (qual := "_law_new_names") (sc := defScope s_law_new_names) (f := T.f_law_new_names) (j := 1) sc_law_new_names.nd
  have hS := fun i => (rfl : (defF P w K mg base ["picks", "many", "taken", "found", "k"] "_law_new_names" (defScope s_law_new_names) T.f_law_new_names (1) i).env.scope = defScope s_law_new_names)
  exact fn_data (M := mJ [3]) T.F_law_new_names sc_law_new_names (mmAll rfl)
      (ss_cons
      (s_own F 3 f_nil)
      (ss_cons
      (s_for F (fun _ => PassesOwn.never) (i_range1 (fun _ => T.n_range) (a_cons (d_var 1) a_nil)) (g_name F 4) (ss_one
      (have hE := (d_call (fun _ => G_law_name) (fun i => (F.room i).mono (by omega)) (fun _ => T.g_law_name) (fun _ => T.k_law_name) (fun _ => T.b_law_name) (a_cons (d_sl F (q_of (d_var 0)) (o_some (d_var 4)) o_none) (a_cons (d_op (fun i => op_adds (F.hK i)) opd_add (q_of (d_var 2)) (q_var 3)) a_nil)) (len_cons (len_cons len_nil))); s_app F 3 hE (mmIn rfl) (fun j => ps_expr (pe_bm PySem.F.plainAttrs_list PySem.F.slot_list_append PySem.F.type_list_append mt_append (pv 3) (pa_cons (hE.pe j) pa_nil))))))
      (ss_one
      (s_ret (d_ty (fun i => cr_tuple (F.hK i)) crd_tuple (fun _ => T.n_tuple) (by decide +kernel) (b_cons (q_var 3) b_nil))))))
theorem sc_law_kin : FnScope ["e", "kin", "name", "there"] ["e"] (defScope s_law_kin) := ⟨rfl, rfl, rfl, by decide +kernel, rfl, by decide +kernel, by decide +kernel⟩
def kinL_NoText : List PyData := [.tuple [.str "TooMany", .bool false], .tuple [.str "NoAsk", .bool false], .tuple [.str "NoRight", .bool false], .tuple [.str "NoRow", .bool false], .tuple [.str "NotLet", .bool false], .tuple [.str "Taken", .bool false], .tuple [.str "Full", .bool false], .tuple [.str "NoCondition", .bool false], .tuple [.str "NoGround", .bool false], .tuple [.str "NoRule", .bool false], .tuple [.str "Twice", .bool false], .tuple [.str "NotThere", .bool false], .tuple [.str "NoView", .bool false], .tuple [.str "InUse", .bool false], .tuple [.str "NoTable", .bool false], .tuple [.str "NoUser", .bool false], .tuple [.str "NoneOpen", .bool false], .tuple [.str "TooDeep", .bool false], .tuple [.str "NoDeeds", .bool false], .tuple [.str "NoText", .bool true], .tuple [.str "NoLine", .bool false], .tuple [.str "ValueError", .bool true]]
def kinR_NoText : PyData := .list [.str "NoText", .str "ValueError"]
theorem kin_NoText {P : Program} {w : World} {K : PySem.W.Frag} {mg : Str → Option Value} {base : Heap} (T : Txt K mg w) : KinH P w K mg base 1 T.f_law_kin T.fd_law_kin T.C_NoText kinR_NoText :=
  fn_kinH (k := 0) (L := kinL_NoText) T.F_law_kin sc_law_kin rfl rfl (fun cdv A outer s H a oe hz hf => ⟨_, (mk_cons rfl T.er_NoText.ec hz hf (List.mem_cons_self) (pe_glob (v := .ref T.C_TooMany) rfl T.mgc_TooMany rfl) (u := .ref T.C_TooMany) (fun _ h => h) (kit_by T.ec_TooMany T.er_NoText.sc T.sub_NoText_TooMany) T.n_isinstance
      (mk_cons rfl T.er_NoText.ec hz hf (List.mem_cons_self) (pe_glob (v := .ref T.C_NoAsk) rfl T.mgc_NoAsk rfl) (u := .ref T.C_NoAsk) (fun _ h => h) (kit_by T.ec_NoAsk T.er_NoText.sc T.sub_NoText_NoAsk) T.n_isinstance
      (mk_cons rfl T.er_NoText.ec hz hf (List.mem_cons_self) (pe_glob (v := .ref T.C_NoRight) rfl T.mgc_NoRight rfl) (u := .ref T.C_NoRight) (fun _ h => h) (kit_by T.ec_NoRight T.er_NoText.sc T.sub_NoText_NoRight) T.n_isinstance
      (mk_cons rfl T.er_NoText.ec hz hf (List.mem_cons_self) (pe_glob (v := .ref T.C_NoRow) rfl T.mgc_NoRow rfl) (u := .ref T.C_NoRow) (fun _ h => h) (kit_by T.ec_NoRow T.er_NoText.sc T.sub_NoText_NoRow) T.n_isinstance
      (mk_cons rfl T.er_NoText.ec hz hf (List.mem_cons_self) (pe_glob (v := .ref T.C_NotLet) rfl T.mgc_NotLet rfl) (u := .ref T.C_NotLet) (fun _ h => h) (kit_by T.ec_NotLet T.er_NoText.sc T.sub_NoText_NotLet) T.n_isinstance
      (mk_cons rfl T.er_NoText.ec hz hf (List.mem_cons_self) (pe_glob (v := .ref T.C_Taken) rfl T.mgc_Taken rfl) (u := .ref T.C_Taken) (fun _ h => h) (kit_by T.ec_Taken T.er_NoText.sc T.sub_NoText_Taken) T.n_isinstance
      (mk_cons rfl T.er_NoText.ec hz hf (List.mem_cons_self) (pe_glob (v := .ref T.C_Full) rfl T.mgc_Full rfl) (u := .ref T.C_Full) (fun _ h => h) (kit_by T.ec_Full T.er_NoText.sc T.sub_NoText_Full) T.n_isinstance
      (mk_cons rfl T.er_NoText.ec hz hf (List.mem_cons_self) (pe_glob (v := .ref T.C_NoCondition) rfl T.mgc_NoCondition rfl) (u := .ref T.C_NoCondition) (fun _ h => h) (kit_by T.ec_NoCondition T.er_NoText.sc T.sub_NoText_NoCondition) T.n_isinstance
      (mk_cons rfl T.er_NoText.ec hz hf (List.mem_cons_self) (pe_glob (v := .ref T.C_NoGround) rfl T.mgc_NoGround rfl) (u := .ref T.C_NoGround) (fun _ h => h) (kit_by T.ec_NoGround T.er_NoText.sc T.sub_NoText_NoGround) T.n_isinstance
      (mk_cons rfl T.er_NoText.ec hz hf (List.mem_cons_self) (pe_glob (v := .ref T.C_NoRule) rfl T.mgc_NoRule rfl) (u := .ref T.C_NoRule) (fun _ h => h) (kit_by T.ec_NoRule T.er_NoText.sc T.sub_NoText_NoRule) T.n_isinstance
      (mk_cons rfl T.er_NoText.ec hz hf (List.mem_cons_self) (pe_glob (v := .ref T.C_Twice) rfl T.mgc_Twice rfl) (u := .ref T.C_Twice) (fun _ h => h) (kit_by T.ec_Twice T.er_NoText.sc T.sub_NoText_Twice) T.n_isinstance
      (mk_cons rfl T.er_NoText.ec hz hf (List.mem_cons_self) (pe_glob (v := .ref T.C_NotThere) rfl T.mgc_NotThere rfl) (u := .ref T.C_NotThere) (fun _ h => h) (kit_by T.ec_NotThere T.er_NoText.sc T.sub_NoText_NotThere) T.n_isinstance
      (mk_cons rfl T.er_NoText.ec hz hf (List.mem_cons_self) (pe_glob (v := .ref T.C_NoView) rfl T.mgc_NoView rfl) (u := .ref T.C_NoView) (fun _ h => h) (kit_by T.ec_NoView T.er_NoText.sc T.sub_NoText_NoView) T.n_isinstance
      (mk_cons rfl T.er_NoText.ec hz hf (List.mem_cons_self) (pe_glob (v := .ref T.C_InUse) rfl T.mgc_InUse rfl) (u := .ref T.C_InUse) (fun _ h => h) (kit_by T.ec_InUse T.er_NoText.sc T.sub_NoText_InUse) T.n_isinstance
      (mk_cons rfl T.er_NoText.ec hz hf (List.mem_cons_self) (pe_glob (v := .ref T.C_NoTable) rfl T.mgc_NoTable rfl) (u := .ref T.C_NoTable) (fun _ h => h) (kit_by T.ec_NoTable T.er_NoText.sc T.sub_NoText_NoTable) T.n_isinstance
      (mk_cons rfl T.er_NoText.ec hz hf (List.mem_cons_self) (pe_glob (v := .ref T.C_NoUser) rfl T.mgc_NoUser rfl) (u := .ref T.C_NoUser) (fun _ h => h) (kit_by T.ec_NoUser T.er_NoText.sc T.sub_NoText_NoUser) T.n_isinstance
      (mk_cons rfl T.er_NoText.ec hz hf (List.mem_cons_self) (pe_glob (v := .ref T.C_NoneOpen) rfl T.mgc_NoneOpen rfl) (u := .ref T.C_NoneOpen) (fun _ h => h) (kit_by T.ec_NoneOpen T.er_NoText.sc T.sub_NoText_NoneOpen) T.n_isinstance
      (mk_cons rfl T.er_NoText.ec hz hf (List.mem_cons_self) (pe_glob (v := .ref T.C_TooDeep) rfl T.mgc_TooDeep rfl) (u := .ref T.C_TooDeep) (fun _ h => h) (kit_by T.ec_TooDeep T.er_NoText.sc T.sub_NoText_TooDeep) T.n_isinstance
      (mk_cons rfl T.er_NoText.ec hz hf (List.mem_cons_self) (pe_glob (v := .ref T.C_NoDeeds) rfl T.mgc_NoDeeds rfl) (u := .ref T.C_NoDeeds) (fun _ h => h) (kit_by T.ec_NoDeeds T.er_NoText.sc T.sub_NoText_NoDeeds) T.n_isinstance
      (mk_cons rfl T.er_NoText.ec hz hf (List.mem_cons_self) (pe_glob (v := .ref T.C_NoText) rfl T.mgc_NoText rfl) (u := .ref T.C_NoText) (fun _ h => h) (kit_by T.ec_NoText T.er_NoText.sc T.sub_NoText_NoText) T.n_isinstance
      (mk_cons rfl T.er_NoText.ec hz hf (List.mem_cons_self) (pe_glob (v := .ref T.C_NoLine) rfl T.mgc_NoLine rfl) (u := .ref T.C_NoLine) (fun _ h => h) (kit_by T.ec_NoLine T.er_NoText.sc T.sub_NoText_NoLine) T.n_isinstance
      (mk_cons rfl T.er_NoText.ec hz hf (List.mem_cons_self) (pe_bltn (v := .ty "ValueError") (u := .type "ValueError") rfl T.n_ValueError (by decide +kernel) rfl) (fun _ h => h) (kit_ty (by decide +kernel) T.sub_NoText_ValueError) T.n_isinstance
      mk_nil))))))))))))))))))))))⟩) (Nat.le_trans (show kinL_NoText.length ≤ 100 by decide) (by decide)) (blkOk_by (by decide +kernel)) rfl (Or.inl rfl) rfl (fun _ _ _ _ _ _ => rfl) (fun _ _ _ _ _ _ => pv 1)
    (fun cdv A outer s H p s' H' C cl fp => ⟨pgs_cons (pg_name (i := 2) sc_law_kin.nd rfl (Or.inl rfl) (.inr rfl)) (pgs_cons (pg_name (i := 3) sc_law_kin.nd rfl (Or.inl rfl) (.inr rfl)) pgs_nil), rfl, rfl, pv 3, pv 2⟩)
def kinD : Str → Option PyData := fun c => if c = "NoText" then some kinR_NoText else none
theorem kin_ok_VeilError {P : Program} {w : World} {K : PySem.W.Frag} {mg : Str → Option Value} {base : Heap} (T : Txt K mg w) : ∀ c d, kinD c = some d → ∃ D, mg c = some (.ref D) ∧ PySem.W.exmOne K (.ref D) (.ref T.C_VeilError) = some true ∧ KinH P w K mg base 1 T.f_law_kin T.fd_law_kin D d := fun c d h => by
  unfold kinD at h
  by_cases z_NoText : c = "NoText"
  · rw [if_pos z_NoText] at h
    cases h
    subst z_NoText
    exact ⟨_, T.mgc_NoText, exm_by T.ec_VeilError T.bv_VeilError T.sub_NoText_VeilError, kin_NoText T⟩
  rw [if_neg z_NoText] at h
  cases h
theorem sc_law_some_columns : FnScope ["picks", "ground", "names", "column"] ["picks", "ground"] (defScope s_law_some_columns) := ⟨rfl, rfl, rfl, by decide +kernel, rfl, by decide +kernel, by decide +kernel⟩
def le1_law_some_columns : En → Option PyData :=
    (mBin dIx (mVar 3) (mC (.int 0)))
def mb_law_some_columns : En → Option Fl :=
    (mSeq
    (mAsg (mLc [3] (mIt (mBin dIx (mBin dIx (mVar 1) (mBin dMod (mBin dIx (mVar 0) (mC (.int 0))) (mCB bLen (mCons (mVar 1) mNil)))) (mC (.int 2)))) (gB 3) mYes le1_law_some_columns) (gB 2))
    (mRet (mBin dAdd (mCB bTuple (mCons (mVar 2) mNil)) (mCB fm_law_new_names (mCons (mSl (mVar 0) (mPart (mC (.int 1))) mNoPart) (mCons (mBin dMod (mBin dIx (mVar 0) (mC (.int 6))) (mC (.int 4))) (mCons (mVar 2) mNil)))))))
def fm_law_some_columns : List PyData → Option PyData := runB 4 mb_law_some_columns
theorem ok_law_some_columns {P : Program} {w : World} {K : PySem.W.Frag} {mg : Str → Option Value} {base : Heap} (T : Txt K mg w) (G_law_new_names : FnOk P w K mg base CX0 (2) T.f_law_new_names T.fd_law_new_names ["picks", "many", "taken"] (spD K JJ 3 fm_law_new_names)) : FnOk P w K mg base CX0 (3) T.f_law_some_columns T.fd_law_some_columns ["picks", "ground"] (spD K JJ 2 fm_law_some_columns) := by
  have F := defF_fam (P := P) (w := w) (K := K) (mg := mg) (base := base) (qual := "_law_some_columns") (sc := defScope s_law_some_columns) (f := T.f_law_some_columns) (j := 2) sc_law_some_columns.nd
  have hS := fun i => (rfl : (defF P w K mg base ["picks", "ground", "names", "column"] "_law_some_columns" (defScope s_law_some_columns) T.f_law_some_columns (2) i).env.scope = defScope s_law_some_columns)
  exact fn_data (M := mJ []) T.F_law_some_columns sc_law_some_columns (mmAll rfl)
      (ss_cons
      (s_setLc F 2 [("column", 3)] (i_weak (i_seq F (d_ix (fun i => ix_seqK (F.hK i)) opd_ix (q_of (d_ix (fun i => ix_seqK (F.hK i)) opd_ix (q_of (d_var 1)) (q_of (d_op (fun _ => op_mod) opd_mod (q_of (d_ix (fun i => ix_seqK (F.hK i)) opd_ix (q_of (d_var 0)) (q_of d_int))) (q_of (d_cb (fun i => cr_len (F.hK i)) crd_len (fun _ => T.n_len) (by decide +kernel) (b_cons (q_of (d_var 1)) b_nil))))))) (q_of d_int)))) hS (blkOk_by (by decide +kernel)) (g_name (F.blk _) 3) gk_name ts_nil (d_ix (fun i => ix_seqK ((F.blk _).hK i)) opd_ix (q_of (d_var 3)) (q_of d_int)))
      (ss_one
      (s_ret (d_op (fun i => op_adds (F.hK i)) opd_add (q_of (d_ty (fun i => cr_tuple (F.hK i)) crd_tuple (fun _ => T.n_tuple) (by decide +kernel) (b_cons (q_of (d_var 2)) b_nil))) (q_of (d_call (fun _ => G_law_new_names) (fun i => (F.room i).mono (by omega)) (fun _ => T.g_law_new_names) (fun _ => T.k_law_new_names) (fun _ => T.b_law_new_names) (a_cons (d_sl F (q_of (d_var 0)) (o_some d_int) o_none) (a_cons (d_op (fun _ => op_mod) opd_mod (q_of (d_ix (fun i => ix_seqK (F.hK i)) opd_ix (q_of (d_var 0)) (q_of d_int))) (q_of d_int)) (a_cons (d_var 2) a_nil))) (len_cons (len_cons (len_cons len_nil)))))))))
theorem sc_law_rank : FnScope ["told"] ["told"] (defScope s_law_rank) := ⟨rfl, rfl, rfl, by decide +kernel, rfl, by decide +kernel, by decide +kernel⟩
def mb_law_rank : En → Option Fl :=
    (mRet (mPickOr (mP1 "or" (mC (.int 0)) (mP1 "and" (mC (.int 1)) (mP1 "not" (mC (.int 2)) mP0))) (mBin dIx (mVar 0) (mC (.int 0))) (mC (.int 3))))
def fm_law_rank : List PyData → Option PyData := runB 1 mb_law_rank
theorem ok_law_rank {P : Program} {w : World} {K : PySem.W.Frag} {mg : Str → Option Value} {base : Heap} (T : Txt K mg w)  : FnOk P w K mg base CX0 (1) T.f_law_rank T.fd_law_rank ["told"] (spD K JJ 1 fm_law_rank) := by
  have F := defF_fam (P := P) (w := w) (K := K) (mg := mg) (base := base) (qual := "_law_rank") (sc := defScope s_law_rank) (f := T.f_law_rank) (j := 0) sc_law_rank.nd
  have hS := fun i => (rfl : (defF P w K mg base ["told"] "_law_rank" (defScope s_law_rank) T.f_law_rank (0) i).env.scope = defScope s_law_rank)
  exact fn_data (M := mJ []) T.F_law_rank sc_law_rank (mmAll rfl)
      (ss_one
      (s_ret (d_pickOr F (p_cons d_int (p_cons d_int (p_cons d_int p_nil))) (d_ix (fun i => ix_seqK (F.hK i)) opd_ix (q_of (d_var 0)) (q_of d_int)) d_int)))
theorem sc_law_put : FnScope ["told", "least", "text"] ["told", "least"] (defScope s_law_put) := ⟨rfl, rfl, rfl, by decide +kernel, rfl, by decide +kernel, by decide +kernel⟩
def mb_law_put (self : List PyData → Option PyData) : En → Option Fl :=
    (mSeq
    (mAsg (mCB self (mCons (mVar 0) mNil)) (gB 2))
    (mRet (mIf (mTst (mBin dGe (mCB fm_law_rank (mCons (mVar 0) mNil)) (mVar 1))) (mVar 2) (mBin dAdd (mBin dAdd (mC (.str "( ")) (mVar 2)) (mC (.str " )"))))))
def fm_law_put (self : List PyData → Option PyData) : List PyData → Option PyData := runB 3 (mb_law_put self)
set_option maxHeartbeats 0 in
theorem ok_law_put {P : Program} {w : World} {K : PySem.W.Frag} {mg : Str → Option Value} {base : Heap} (T : Txt K mg w) (G_law_rank : FnOk P w K mg base CX0 (1) T.f_law_rank T.fd_law_rank ["told"] (spD K JJ 1 fm_law_rank)) {n : Nat} {self : List PyData → Option PyData} (GS : FnOk P w K mg base CX0 (2 + 2 * n) T.f_law_words T.fd_law_words ["told"] (spD K JJ 1 self))  : FnOk P w K mg base CX0 (2 + 2 * n + 1) T.f_law_put T.fd_law_put ["told", "least"] (spD K JJ 2 (fm_law_put self)) := by
  have F := defF_fam (P := P) (w := w) (K := K) (mg := mg) (base := base) (qual := "_law_put") (sc := defScope s_law_put) (f := T.f_law_put) (j := 2 + 2 * n + 0) sc_law_put.nd
  have hS := fun i => (rfl : (defF P w K mg base ["told", "least", "text"] "_law_put" (defScope s_law_put) T.f_law_put (2 + 2 * n + 0) i).env.scope = defScope s_law_put)
  exact fn_data (M := mJ []) T.F_law_put sc_law_put (mmAll rfl)
      (ss_cons
      (s_set F 2 (d_call (fun _ => GS) (fun i => (F.room i).mono (by omega)) (fun _ => T.g_law_words) (fun _ => T.k_law_words) (fun _ => T.b_law_words) (a_cons (d_var 0) a_nil) (len_cons len_nil)))
      (ss_one
      (s_ret (d_if (t_cmp (fun _ => op_ge) opd_ge (q_of (d_call (fun _ => G_law_rank) (fun i => (F.room i).mono (by omega)) (fun _ => T.g_law_rank) (fun _ => T.k_law_rank) (fun _ => T.b_law_rank) (a_cons (d_var 0) a_nil) (len_cons len_nil))) (q_of (d_var 1))) (d_var 2) (d_op (fun i => op_adds (F.hK i)) opd_add (q_of (d_op (fun i => op_adds (F.hK i)) opd_add (q_of d_str) (q_of (d_var 2)))) (q_of d_str))))))
theorem sc_law_words : FnScope ["told", "word"] ["told"] (defScope s_law_words) := ⟨rfl, rfl, rfl, by decide +kernel, rfl, by decide +kernel, by decide +kernel⟩
def mb_law_words (self : List PyData → Option PyData) : En → Option Fl :=
    (mSeq
    (mAsg (mBin dIx (mVar 0) (mC (.int 0))) (gB 1))
    (mSeq
    (mIfS (mTst (mBin (dIn false) (mVar 1) (mTup (mCons (mC (.str "and")) (mCons (mC (.str "or")) mNil))))) (mRet (mBin dAdd (mBin dAdd (mBin dAdd (mBin dAdd (mCB (fm_law_put self) (mCons (mBin dIx (mVar 0) (mC (.int 1))) (mCons (mCB fm_law_rank (mCons (mVar 0) mNil)) mNil))) (mC (.str " "))) (mVar 1)) (mC (.str " "))) (mCB (fm_law_put self) (mCons (mBin dIx (mVar 0) (mC (.int 2))) (mCons (mBin dAdd (mCB fm_law_rank (mCons (mVar 0) mNil)) (mC (.int 1))) mNil))))) mNext)
    (mSeq
    (mIfS (mTst (mBin dEq (mVar 1) (mC (.str "not")))) (mRet (mBin dAdd (mC (.str "not ")) (mCB (fm_law_put self) (mCons (mBin dIx (mVar 0) (mC (.int 1))) (mCons (mC (.int 2)) mNil))))) mNext)
    (mSeq
    (mIfS (mTst (mBin dEq (mVar 1) (mC (.str "has")))) (mRet (mBin dAdd (mBin dAdd (mBin dAdd (mJoin (mC (.str " ")) (mSl (mVar 0) mNoPart (mPart (mC (.int 4))))) (mC (.str " ( "))) (mCB self (mCons (mBin dIx (mVar 0) (mC (.int 4))) mNil))) (mC (.str " )")))) mNext)
    (mSeq
    (mIfS (mTst (mBin (dIn false) (mVar 1) (mTup (mCons (mC (.str "is")) (mCons (mC (.str "same")) (mCons (mC (.str "below")) mNil)))))) (mRet (mBin dAdd (mBin dAdd (mBin dIx (mVar 0) (mC (.int 1))) (mBin dIx (mLst (mCons (mC (.str " = ")) (mCons (mC (.str " < ")) mNil))) (mCB bInt (mCons (mBin dEq (mVar 1) (mC (.str "below"))) mNil)))) (mCB bStr (mCons (mBin dIx (mVar 0) (mC (.int 2))) mNil)))) mNext)
    (mRet (mIf (mTst (mBin dEq (mVar 1) (mC (.str "yes")))) (mC (.str "yes")) (mBin dAdd (mBin dAdd (mBin dIx (mVar 0) (mC (.int 1))) (mC (.str " "))) (mVar 1)))))))))
def fm_law_words : Nat → List PyData → Option PyData
  | 0 => fun _ => none
  | n + 1 => runB 2 (mb_law_words (fm_law_words n))
set_option maxHeartbeats 0 in
theorem ok_law_words {P : Program} {w : World} {K : PySem.W.Frag} {mg : Str → Option Value} {base : Heap} (T : Txt K mg w) (G_law_rank : FnOk P w K mg base CX0 (1) T.f_law_rank T.fd_law_rank ["told"] (spD K JJ 1 fm_law_rank)) : ∀ n, FnOk P w K mg base CX0 (2 + 2 * n) T.f_law_words T.fd_law_words ["told"] (spD K JJ 1 (fm_law_words n))
  | 0 => fn_none T.F_law_words sc_law_words (fun _ => rfl)
  | n + 1 => by
    have GS := ok_law_words (P := P) (w := w) (base := base) T G_law_rank n
    have G_law_put := ok_law_put T G_law_rank GS 
    rw [show 2 + 2 * (n + 1) = (2 + 2 * n + 1) + 1 by omega]
    have F := defF_fam (P := P) (w := w) (K := K) (mg := mg) (base := base) (qual := "_law_words") (sc := defScope s_law_words) (f := T.f_law_words) (j := 2 + 2 * n + 1) sc_law_words.nd
    have hS := fun i => (rfl : (defF P w K mg base ["told", "word"] "_law_words" (defScope s_law_words) T.f_law_words (2 + 2 * n + 1) i).env.scope = defScope s_law_words)
    exact fn_data (M := mJ []) T.F_law_words sc_law_words (mmAll rfl)
      (ss_cons
      (s_set F 1 (d_ix (fun i => ix_seqK (F.hK i)) opd_ix (q_of (d_var 0)) (q_of d_int)))
      (ss_cons
      (s_if (t_cmp (fun i => op_ins (F.hK i) (F.u65 i)) (opd_in false) (q_of (d_var 1)) (q_of (d_tup (a_cons d_str (a_cons d_str a_nil))))) (ss_one
      (s_ret (d_op (fun i => op_adds (F.hK i)) opd_add (q_of (d_op (fun i => op_adds (F.hK i)) opd_add (q_of (d_op (fun i => op_adds (F.hK i)) opd_add (q_of (d_op (fun i => op_adds (F.hK i)) opd_add (q_of (d_call (fun _ => G_law_put) (fun i => (F.room i).mono (by omega)) (fun _ => T.g_law_put) (fun _ => T.k_law_put) (fun _ => T.b_law_put) (a_cons (d_ix (fun i => ix_seqK (F.hK i)) opd_ix (q_of (d_var 0)) (q_of d_int)) (a_cons (d_call (fun _ => G_law_rank) (fun i => (F.room i).mono (by omega)) (fun _ => T.g_law_rank) (fun _ => T.k_law_rank) (fun _ => T.b_law_rank) (a_cons (d_var 0) a_nil) (len_cons len_nil)) a_nil)) (len_cons (len_cons len_nil)))) (q_of d_str))) (q_of (d_var 1)))) (q_of d_str))) (q_of (d_call (fun _ => G_law_put) (fun i => (F.room i).mono (by omega)) (fun _ => T.g_law_put) (fun _ => T.k_law_put) (fun _ => T.b_law_put) (a_cons (d_ix (fun i => ix_seqK (F.hK i)) opd_ix (q_of (d_var 0)) (q_of d_int)) (a_cons (d_op (fun i => op_adds (F.hK i)) opd_add (q_of (d_call (fun _ => G_law_rank) (fun i => (F.room i).mono (by omega)) (fun _ => T.g_law_rank) (fun _ => T.k_law_rank) (fun _ => T.b_law_rank) (a_cons (d_var 0) a_nil) (len_cons len_nil))) (q_of d_int)) a_nil)) (len_cons (len_cons len_nil))))))) ss_nil)
      (ss_cons
      (s_if (t_cmp (fun i => op_eqK (F.hK i) (F.u64 i)) opd_eq (q_of (d_var 1)) (q_of d_str)) (ss_one
      (s_ret (d_op (fun i => op_adds (F.hK i)) opd_add (q_of d_str) (q_of (d_call (fun _ => G_law_put) (fun i => (F.room i).mono (by omega)) (fun _ => T.g_law_put) (fun _ => T.k_law_put) (fun _ => T.b_law_put) (a_cons (d_ix (fun i => ix_seqK (F.hK i)) opd_ix (q_of (d_var 0)) (q_of d_int)) (a_cons d_int a_nil)) (len_cons (len_cons len_nil))))))) ss_nil)
      (ss_cons
      (s_if (t_cmp (fun i => op_eqK (F.hK i) (F.u64 i)) opd_eq (q_of (d_var 1)) (q_of d_str)) (ss_one
      (s_ret (d_op (fun i => op_adds (F.hK i)) opd_add (q_of (d_op (fun i => op_adds (F.hK i)) opd_add (q_of (d_op (fun i => op_adds (F.hK i)) opd_add (q_of (d_join F d_str (d_sl F (q_of (d_var 0)) o_none (o_some d_int)))) (q_of d_str))) (q_of (d_call (fun _ => GS) (fun i => (F.room i).mono (by omega)) (fun _ => T.g_law_words) (fun _ => T.k_law_words) (fun _ => T.b_law_words) (a_cons (d_ix (fun i => ix_seqK (F.hK i)) opd_ix (q_of (d_var 0)) (q_of d_int)) a_nil) (len_cons len_nil))))) (q_of d_str)))) ss_nil)
      (ss_cons
      (s_if (t_cmp (fun i => op_ins (F.hK i) (F.u65 i)) (opd_in false) (q_of (d_var 1)) (q_of (d_tup (a_cons d_str (a_cons d_str (a_cons d_str a_nil)))))) (ss_one
      (s_ret (d_op (fun i => op_adds (F.hK i)) opd_add (q_of (d_op (fun i => op_adds (F.hK i)) opd_add (q_of (d_ix (fun i => ix_seqK (F.hK i)) opd_ix (q_of (d_var 0)) (q_of d_int))) (q_of (d_ix (fun i => ix_seqK (F.hK i)) opd_ix (q_of (d_lst (a_cons d_str (a_cons d_str a_nil)))) (q_of (d_ty (fun _ => call_int1) crd_int (fun _ => T.n_int) (by decide +kernel) (b_cons (q_of (d_cmp (fun i => op_eqK (F.hK i) (F.u64 i)) opd_eq (q_of (d_var 1)) (q_of d_str))) b_nil))))))) (q_of (d_ty (fun _ => cr_str) crd_str (fun _ => T.n_str) (by decide +kernel) (b_cons (q_of (d_ix (fun i => ix_seqK (F.hK i)) opd_ix (q_of (d_var 0)) (q_of d_int))) b_nil)))))) ss_nil)
      (ss_one
      (s_ret (d_if (t_cmp (fun i => op_eqK (F.hK i) (F.u64 i)) opd_eq (q_of (d_var 1)) (q_of d_str)) d_str (d_op (fun i => op_adds (F.hK i)) opd_add (q_of (d_op (fun i => op_adds (F.hK i)) opd_add (q_of (d_ix (fun i => ix_seqK (F.hK i)) opd_ix (q_of (d_var 0)) (q_of d_int))) (q_of d_str))) (q_of (d_var 1)))))))))))
theorem sc_law_wide : FnScope ["told", "picks", "deep", "word", "many", "most", "half", "left", "one", "right", "other", "text", "inner"] ["told", "picks", "deep"] (defScope s_law_wide) := ⟨rfl, rfl, rfl, by decide +kernel, rfl, by decide +kernel, by decide +kernel⟩
def mb_law_wide (self : List PyData → Option PyData) : En → Option Fl :=
    (mSeq
    (mAsg (mBin dIx (mVar 0) (mC (.int 0))) (gB 3))
    (mSeq
    (mAsg (mBin dIx (mLst (mCons (mC (.int 0)) (mCons (mC (.int 0)) (mCons (mC (.int 1)) (mCons (mC (.int 2)) (mCons (mBin dMod (mBin dIx (mVar 1) (mC (.int 0))) (mC (.int 7))) (mCons (mBin dMod (mBin dIx (mVar 1) (mC (.int 0))) (mC (.int 23))) mNil))))))) (mBin dMod (mBin dIx (mVar 1) (mC (.int 1))) (mC (.int 6)))) (gB 4))
    (mSeq
    (mAsg (mBin dAdd (mVar 2) (mVar 4)) (gB 5))
    (mSeq
    (mIfS (mTst (mBin (dIn false) (mVar 3) (mTup (mCons (mC (.str "and")) (mCons (mC (.str "or")) mNil))))) (mSeq
    (mAsg (mBin dDiv (mCB bLen (mCons (mVar 1) mNil)) (mC (.int 2))) (gB 6))
    (mSeq
    (mAsg (mCB self (mCons (mBin dIx (mVar 0) (mC (.int 1))) (mCons (mSl (mVar 1) (mPart (mC (.int 2))) (mPart (mVar 6))) (mCons (mBin dAdd (mVar 5) (mC (.int 1))) mNil)))) (gT 2 (gsC (gB 7) (gsC (gB 8) gsN))))
    (mSeq
    (mAsg (mCB self (mCons (mBin dIx (mVar 0) (mC (.int 2))) (mCons (mSl (mVar 1) (mPart (mVar 6)) mNoPart) (mCons (mBin dAdd (mVar 5) (mC (.int 1))) mNil)))) (gT 2 (gsC (gB 9) (gsC (gB 10) gsN))))
    (mPar 11 5 (mCons (mBin dAdd (mBin dAdd (mBin dAdd (mBin dAdd (mBin dAdd (mBin dAdd (mC (.str "( ")) (mVar 7)) (mC (.str " ) "))) (mVar 3)) (mC (.str " ( "))) (mVar 9)) (mC (.str " )"))) (mCons (mCB bMax2 (mCons (mVar 8) (mCons (mVar 10) mNil))) mNil)))))) (mIfS (mTst (mBin dEq (mVar 3) (mC (.str "not")))) (mSeq
    (mAsg (mCB self (mCons (mBin dIx (mVar 0) (mC (.int 1))) (mCons (mSl (mVar 1) (mPart (mC (.int 2))) mNoPart) (mCons (mBin dAdd (mVar 5) (mC (.int 1))) mNil)))) (gT 2 (gsC (gB 12) (gsC (gB 5) gsN))))
    (mAsg (mBin dAdd (mBin dAdd (mC (.str "not ( ")) (mVar 12)) (mC (.str " )"))) (gB 11))) (mIfS (mTst (mBin dEq (mVar 3) (mC (.str "has")))) (mSeq
    (mAsg (mCB self (mCons (mBin dIx (mVar 0) (mC (.int 4))) (mCons (mSl (mVar 1) (mPart (mC (.int 2))) mNoPart) (mCons (mVar 5) mNil)))) (gT 2 (gsC (gB 12) (gsC (gB 5) gsN))))
    (mAsg (mBin dAdd (mBin dAdd (mBin dAdd (mJoin (mC (.str " ")) (mSl (mVar 0) mNoPart (mPart (mC (.int 4))))) (mC (.str " ( "))) (mVar 12)) (mC (.str " )"))) (gB 11))) (mAsg (mCB (fm_law_words 10) (mCons (mVar 0) mNil)) (gB 11)))))
    (mRet (mTup (mCons (mBin dAdd (mBin dAdd (mBin dMulT (mC (.str "( ")) (mVar 4)) (mVar 11)) (mBin dMulT (mC (.str " )")) (mVar 4))) (mCons (mVar 5) mNil))))))))
def fm_law_wide : Nat → List PyData → Option PyData
  | 0 => fun _ => none
  | n + 1 => runB 13 (mb_law_wide (fm_law_wide n))
theorem ok_law_wide {P : Program} {w : World} {K : PySem.W.Frag} {mg : Str → Option Value} {base : Heap} (T : Txt K mg w) (G_law_words : FnOk P w K mg base CX0 (22) T.f_law_words T.fd_law_words ["told"] (spD K JJ 1 (fm_law_words 10))) : ∀ n, FnOk P w K mg base CX0 (23 + n) T.f_law_wide T.fd_law_wide ["told", "picks", "deep"] (spD K JJ 3 (fm_law_wide n))
  | 0 => fn_none T.F_law_wide sc_law_wide (fun _ => rfl)
  | n + 1 => by
    have GS := ok_law_wide (P := P) (w := w) (base := base) T G_law_words n
    have F := defF_fam (P := P) (w := w) (K := K) (mg := mg) (base := base) (qual := "_law_wide") (sc := defScope s_law_wide) (f := T.f_law_wide) (j := 23 + n) sc_law_wide.nd
    have hS := fun i => (rfl : (defF P w K mg base ["told", "picks", "deep", "word", "many", "most", "half", "left", "one", "right", "other", "text", "inner"] "_law_wide" (defScope s_law_wide) T.f_law_wide (23 + n) i).env.scope = defScope s_law_wide)
    exact fn_data (M := mJ []) T.F_law_wide sc_law_wide (mmAll rfl)
      (ss_cons
      (s_set F 3 (d_ix (fun i => ix_seqK (F.hK i)) opd_ix (q_of (d_var 0)) (q_of d_int)))
      (ss_cons
      (s_set F 4 (d_ix (fun i => ix_seqK (F.hK i)) opd_ix (q_of (d_lst (a_cons d_int (a_cons d_int (a_cons d_int (a_cons d_int (a_cons (d_op (fun _ => op_mod) opd_mod (q_of (d_ix (fun i => ix_seqK (F.hK i)) opd_ix (q_of (d_var 1)) (q_of d_int))) (q_of d_int)) (a_cons (d_op (fun _ => op_mod) opd_mod (q_of (d_ix (fun i => ix_seqK (F.hK i)) opd_ix (q_of (d_var 1)) (q_of d_int))) (q_of d_int)) a_nil)))))))) (q_of (d_op (fun _ => op_mod) opd_mod (q_of (d_ix (fun i => ix_seqK (F.hK i)) opd_ix (q_of (d_var 1)) (q_of d_int))) (q_of d_int)))))
      (ss_cons
      (s_set F 5 (d_op (fun i => op_adds (F.hK i)) opd_add (q_of (d_var 2)) (q_of (d_var 4))))
      (ss_cons
      (s_if (t_cmp (fun i => op_ins (F.hK i) (F.u65 i)) (opd_in false) (q_of (d_var 3)) (q_of (d_tup (a_cons d_str (a_cons d_str a_nil))))) (ss_cons
      (s_set F 6 (d_op (fun _ => op_fdivW) opd_div (q_of (d_cb (fun i => cr_len (F.hK i)) crd_len (fun _ => T.n_len) (by decide +kernel) (b_cons (q_of (d_var 1)) b_nil))) (q_of d_int)))
      (ss_cons
      (s_asg (d_call (fun _ => GS) (fun i => (F.room i).mono (by omega)) (fun _ => T.g_law_wide) (fun _ => T.k_law_wide) (fun _ => T.b_law_wide) (a_cons (d_ix (fun i => ix_seqK (F.hK i)) opd_ix (q_of (d_var 0)) (q_of d_int)) (a_cons (d_sl F (q_of (d_var 1)) (o_some d_int) (o_some (d_var 6))) (a_cons (d_op (fun i => op_adds (F.hK i)) opd_add (q_of (d_var 5)) (q_of d_int)) a_nil))) (len_cons (len_cons (len_cons len_nil)))) (g_tup F (gs_cons (g_name F 7) (gs_cons (g_name F 8) gs_nil))))
      (ss_cons
      (s_asg (d_call (fun _ => GS) (fun i => (F.room i).mono (by omega)) (fun _ => T.g_law_wide) (fun _ => T.k_law_wide) (fun _ => T.b_law_wide) (a_cons (d_ix (fun i => ix_seqK (F.hK i)) opd_ix (q_of (d_var 0)) (q_of d_int)) (a_cons (d_sl F (q_of (d_var 1)) (o_some (d_var 6)) o_none) (a_cons (d_op (fun i => op_adds (F.hK i)) opd_add (q_of (d_var 5)) (q_of d_int)) a_nil))) (len_cons (len_cons (len_cons len_nil)))) (g_tup F (gs_cons (g_name F 9) (gs_cons (g_name F 10) gs_nil))))
      (ss_one
      (s_par F 11 5 (a_cons (d_op (fun i => op_adds (F.hK i)) opd_add (q_of (d_op (fun i => op_adds (F.hK i)) opd_add (q_of (d_op (fun i => op_adds (F.hK i)) opd_add (q_of (d_op (fun i => op_adds (F.hK i)) opd_add (q_of (d_op (fun i => op_adds (F.hK i)) opd_add (q_of (d_op (fun i => op_adds (F.hK i)) opd_add (q_of d_str) (q_of (d_var 7)))) (q_of d_str))) (q_of (d_var 3)))) (q_of d_str))) (q_of (d_var 9)))) (q_of d_str)) (a_cons (d_cb (fun i => call_max2 (F.calm i)) crd_max2 (fun _ => T.n_max) (by decide +kernel) (b_cons (q_of (d_var 8)) (b_cons (q_of (d_var 10)) b_nil))) a_nil))))))) (ss_one
      (s_if (t_cmp (fun i => op_eqK (F.hK i) (F.u64 i)) opd_eq (q_of (d_var 3)) (q_of d_str)) (ss_cons
      (s_asg (d_call (fun _ => GS) (fun i => (F.room i).mono (by omega)) (fun _ => T.g_law_wide) (fun _ => T.k_law_wide) (fun _ => T.b_law_wide) (a_cons (d_ix (fun i => ix_seqK (F.hK i)) opd_ix (q_of (d_var 0)) (q_of d_int)) (a_cons (d_sl F (q_of (d_var 1)) (o_some d_int) o_none) (a_cons (d_op (fun i => op_adds (F.hK i)) opd_add (q_of (d_var 5)) (q_of d_int)) a_nil))) (len_cons (len_cons (len_cons len_nil)))) (g_tup F (gs_cons (g_name F 12) (gs_cons (g_name F 5) gs_nil))))
      (ss_one
      (s_set F 11 (d_op (fun i => op_adds (F.hK i)) opd_add (q_of (d_op (fun i => op_adds (F.hK i)) opd_add (q_of d_str) (q_of (d_var 12)))) (q_of d_str))))) (ss_one
      (s_if (t_cmp (fun i => op_eqK (F.hK i) (F.u64 i)) opd_eq (q_of (d_var 3)) (q_of d_str)) (ss_cons
      (s_asg (d_call (fun _ => GS) (fun i => (F.room i).mono (by omega)) (fun _ => T.g_law_wide) (fun _ => T.k_law_wide) (fun _ => T.b_law_wide) (a_cons (d_ix (fun i => ix_seqK (F.hK i)) opd_ix (q_of (d_var 0)) (q_of d_int)) (a_cons (d_sl F (q_of (d_var 1)) (o_some d_int) o_none) (a_cons (d_var 5) a_nil))) (len_cons (len_cons (len_cons len_nil)))) (g_tup F (gs_cons (g_name F 12) (gs_cons (g_name F 5) gs_nil))))
      (ss_one
      (s_set F 11 (d_op (fun i => op_adds (F.hK i)) opd_add (q_of (d_op (fun i => op_adds (F.hK i)) opd_add (q_of (d_op (fun i => op_adds (F.hK i)) opd_add (q_of (d_join F d_str (d_sl F (q_of (d_var 0)) o_none (o_some d_int)))) (q_of d_str))) (q_of (d_var 12)))) (q_of d_str))))) (ss_one
      (s_set F 11 (d_call (fun _ => G_law_words) (fun i => (F.room i).mono (by omega)) (fun _ => T.g_law_words) (fun _ => T.k_law_words) (fun _ => T.b_law_words) (a_cons (d_var 0) a_nil) (len_cons len_nil)))))))))
      (ss_one
      (s_ret (d_tup (a_cons (d_op (fun i => op_adds (F.hK i)) opd_add (q_of (d_op (fun i => op_adds (F.hK i)) opd_add (q_of (d_op (fun _ => op_mulT) opd_mulT (q_of d_str) (q_of (d_var 4)))) (q_of (d_var 11)))) (q_of (d_op (fun _ => op_mulT) opd_mulT (q_of d_str) (q_of (d_var 4))))) (a_cons (d_var 5) a_nil)))))))))
theorem sc_law_told : FnScope ["text", "way", "told", "kin", "e"] ["text", "way"] (defScope s_law_told) := ⟨rfl, rfl, rfl, by decide +kernel, rfl, by decide +kernel, by decide +kernel⟩
def lx1_law_told : En → Option Fx :=
    (mIfX (mTst (mBin dEq (mVar 1) (mC (.int 0)))) (mCX fx_read_condition (mCons (mVar 0) mNil) fun d env => some (.nx (env.set 2 (some d)))) (mCX fx_read_ask (mCons (mBin dAdd (mBin dAdd (mC (.str "rows a | where ")) (mVar 0)) (mC (.str " | seal"))) mNil) fun d env => some (.nx (env.set 2 (some d)))))
def mb_law_told : En → Option Fl :=
    (mSeq
    (mAsg (mC .none) (gB 2))
    (mSeq
    (mAsg (mLst mNil) (gB 3))
    (mSeq
    (mTry lx1_law_told kinD 4 3)
    (mRet (mTup (mCons (mVar 2) (mCons (mVar 3) mNil)))))))
def fm_law_told : List PyData → Option PyData := runB 5 mb_law_told
theorem ok_law_told {P : Program} {w : World} {K : PySem.W.Frag} {mg : Str → Option Value} {base : Heap} (T : Txt K mg w) (G_read_condition : FnOk P w K mg base (L2N.CX P w) (159) T.f_read_condition T.fd_read_condition ["thing"] (spX K JJ mg 1 fx_read_condition)) (G_read_ask : FnOk P w K mg base (L2N.CX P w) (165) T.f_read_ask T.fd_read_ask ["thing"] (spX K JJ mg 1 fx_read_ask)) : FnOk P w K mg base CX0 (166) T.f_law_told T.fd_law_told ["text", "way"] (spD K JJ 2 fm_law_told) := by
  have F := defF_fam (P := P) (w := w) (K := K) (mg := mg) (base := base) (qual := "_law_told") (sc := defScope s_law_told) (f := T.f_law_told) (j := 165) sc_law_told.nd
  have hS := fun i => (rfl : (defF P w K mg base ["text", "way", "told", "kin", "e"] "_law_told" (defScope s_law_told) T.f_law_told (165) i).env.scope = defScope s_law_told)
  exact fn_data (M := mJ []) T.F_law_told sc_law_told (mmAll rfl)
      (ss_cons
      (s_set F 2 d_non)
      (ss_cons
      (s_set F 3 (d_lst a_nil))
      (ss_cons
      (s_tryKin F 4 3 (fun _ => rfl) (fun _ => rfl) (fun _ => rfl) (fun _ => rfl) (xs_one
      (have hA := (a_cons (d_var 0) a_nil); have hB := (a_cons (d_op (fun i => op_adds ((tryF_fam F).hK i)) opd_add (q_of (d_op (fun i => op_adds ((tryF_fam F).hK i)) opd_add (q_of d_str) (q_of (d_var 0)))) (q_of d_str)) a_nil); x_asgIf (tryF_fam F) 2 (t_cmp (fun i => op_eqK ((tryF_fam F).hK i) ((tryF_fam F).u64 i)) opd_eq (q_of (d_var 1)) (q_of d_int)) (pe_callX (fun _ => G_read_condition) (fun i => ((tryF_fam F).room i).mono (by omega)) (fun i => i.tk) (fun _ => T.g_read_condition) (fun _ => T.k_read_condition) (fun _ => T.b_read_condition) hA) hA.sd (len_cons len_nil) (pe_callX (fun _ => G_read_ask) (fun i => ((tryF_fam F).room i).mono (by omega)) (fun i => i.tk) (fun _ => T.g_read_ask) (fun _ => T.k_read_ask) (fun _ => T.b_read_ask) hB) hB.sd (len_cons len_nil))) (kin_ok_VeilError T) (by first | decide | exact mmOut rfl | exact ⟨mmOut rfl, mmOut rfl⟩) T.g_law_kin T.k_law_kin T.b_law_kin T.mgc_VeilError)
      (ss_one
      (s_ret (d_tup (a_cons (d_var 2) (a_cons (d_var 3) a_nil))))))))
theorem sc_law : FnScope ["script", "cell", "picks", "ground", "columns", "condition", "told", "way", "text", "most"] ["script"] (defScope s_law) := ⟨rfl, rfl, rfl, by decide +kernel, rfl, by decide +kernel, by decide +kernel⟩
def lb1_law : En → Option Fl :=
    (mIfS (mTst (mBin dNe (mCB fm_law_told (mCons (mVar 8) (mCons (mVar 7) mNil))) (mIf (mTst (mBin dLt (mVar 9) (mC (.int 21)))) (mTup (mCons (mBin dIx (mVar 6) (mVar 7)) (mCons (mLst mNil) mNil))) (mTup (mCons (mC .none) (mCons (mLst (mCons (mC (.str "NoText")) (mCons (mC (.str "ValueError")) mNil))) mNil)))))) (mRet (mC (.bool false))) mNext)
def lb2_law : En → Option Fl :=
    (mSeq
    (mAsg (mCB fm_law_draws (mCons (mVar 1) (mCons (mC (.int 900)) (mCons (mC (.int 1000)) mNil)))) (gB 2))
    (mSeq
    (mAsg (mCB fm_law_ground (mCons (mVar 2) (mCons (mC (.int 1000)) mNil))) (gB 3))
    (mSeq
    (mAsg (mCB fm_law_some_columns (mCons (mSl (mVar 2) (mPart (mC (.int 150))) mNoPart) (mCons (mVar 3) mNil))) (gB 4))
    (mSeq
    (mAsg (mCB (fm_law_condition 10) (mCons (mSl (mVar 2) (mPart (mC (.int 170))) mNoPart) (mCons (mBin dAdd (mC (.int 1)) (mBin dMod (mBin dIx (mVar 2) (mC (.int 160))) (mC (.int 8)))) (mCons (mVar 3) (mCons (mVar 4) (mCons (mC (.str "lmh")) mNil)))))) (gB 5))
    (mSeq
    (mAsg (mCB (fm_law_wide 10) (mCons (mVar 5) (mCons (mSl (mVar 2) (mPart (mC (.int 230))) mNoPart) (mCons (mC (.int 0)) mNil)))) (gT 2 (gsC (gB 8) (gsC (gB 9) gsN))))
    (mSeq
    (mAsg (mLst (mCons (mVar 5) (mCons (mTup (mCons (mC (.str "seal")) (mCons (mTup (mCons (mC (.str "where")) (mCons (mTup (mCons (mC (.str "rows")) (mCons (mC (.str "a")) mNil))) (mCons (mVar 5) mNil)))) mNil))) mNil))) (gB 6))
    (mFor (mRng rng1 (mCons (mC (.int 2)) mNil)) (gB 7) lb1_law)))))))
def mb_law : En → Option Fl :=
    (mSeq
    (mFor (mIt (mBin dAdd (mLst (mCons (mCB fm_law_cell_at (mCons (mVar 0) (mCons (mC (.int 0)) mNil))) mNil)) (mSl (mVar 0) (mPart (mC (.int 1))) (mPart (mC (.int 8)))))) (gB 1) lb2_law)
    (mRet (mC (.bool true))))
def fm_law : List PyData → Option PyData := runB 10 mb_law
set_option maxHeartbeats 0 in
theorem ok_law {P : Program} {w : World} {K : PySem.W.Frag} {mg : Str → Option Value} {base : Heap} (T : Txt K mg w) (G_law_cell_at : FnOk P w K mg base CX0 (1) T.f_law_cell_at T.fd_law_cell_at ["script", "k"] (spD K JJ 2 fm_law_cell_at)) (G_law_told : FnOk P w K mg base CX0 (166) T.f_law_told T.fd_law_told ["text", "way"] (spD K JJ 2 fm_law_told)) (G_law_wide : FnOk P w K mg base CX0 (33) T.f_law_wide T.fd_law_wide ["told", "picks", "deep"] (spD K JJ 3 (fm_law_wide 10))) (G_law_condition : FnOk P w K mg base CX0 (12) T.f_law_condition T.fd_law_condition ["picks", "parts", "ground", "columns", "ways"] (spD K JJ 5 (fm_law_condition 10))) (G_law_some_columns : FnOk P w K mg base CX0 (3) T.f_law_some_columns T.fd_law_some_columns ["picks", "ground"] (spD K JJ 2 fm_law_some_columns)) (G_law_ground : FnOk P w K mg base CX0 (3) T.f_law_ground T.fd_law_ground ["picks", "top"] (spD K JJ 2 fm_law_ground)) (G_law_draws : FnOk P w K mg base CX0 (1) T.f_law_draws T.fd_law_draws ["cell", "many", "base"] (spD K JJ 3 fm_law_draws)) : FnOk P w K mg base CX0 (167) T.f_law T.fd_law ["script"] (spD K JJ 1 fm_law) := by
  have F := defF_fam (P := P) (w := w) (K := K) (mg := mg) (base := base) (qual := "law") (sc := defScope s_law) (f := T.f_law) (j := 166) sc_law.nd
  have hS := fun i => (rfl : (defF P w K mg base ["script", "cell", "picks", "ground", "columns", "condition", "told", "way", "text", "most"] "law" (defScope s_law) T.f_law (166) i).env.scope = defScope s_law)
  exact fn_data (M := mJ []) T.F_law sc_law (mmAll rfl)
      (ss_cons
      (s_for F (fun _ => PassesOwn.never) (i_seq F (d_op (fun i => op_adds (F.hK i)) opd_add (q_of (d_lst (a_cons (d_call (fun _ => G_law_cell_at) (fun i => (F.room i).mono (by omega)) (fun _ => T.g_law_cell_at) (fun _ => T.k_law_cell_at) (fun _ => T.b_law_cell_at) (a_cons (d_var 0) (a_cons d_int a_nil)) (len_cons (len_cons len_nil))) a_nil))) (q_of (d_sl F (q_of (d_var 0)) (o_some d_int) (o_some d_int))))) (g_name F 1) (ss_cons
      (s_set F 2 (d_call (fun _ => G_law_draws) (fun i => (F.room i).mono (by omega)) (fun _ => T.g_law_draws) (fun _ => T.k_law_draws) (fun _ => T.b_law_draws) (a_cons (d_var 1) (a_cons d_int (a_cons d_int a_nil))) (len_cons (len_cons (len_cons len_nil)))))
      (ss_cons
      (s_set F 3 (d_call (fun _ => G_law_ground) (fun i => (F.room i).mono (by omega)) (fun _ => T.g_law_ground) (fun _ => T.k_law_ground) (fun _ => T.b_law_ground) (a_cons (d_var 2) (a_cons d_int a_nil)) (len_cons (len_cons len_nil))))
      (ss_cons
      (s_set F 4 (d_call (fun _ => G_law_some_columns) (fun i => (F.room i).mono (by omega)) (fun _ => T.g_law_some_columns) (fun _ => T.k_law_some_columns) (fun _ => T.b_law_some_columns) (a_cons (d_sl F (q_of (d_var 2)) (o_some d_int) o_none) (a_cons (d_var 3) a_nil)) (len_cons (len_cons len_nil))))
      (ss_cons
      (s_set F 5 (d_call (fun _ => G_law_condition) (fun i => (F.room i).mono (by omega)) (fun _ => T.g_law_condition) (fun _ => T.k_law_condition) (fun _ => T.b_law_condition) (a_cons (d_sl F (q_of (d_var 2)) (o_some d_int) o_none) (a_cons (d_op (fun i => op_adds (F.hK i)) opd_add (q_of d_int) (q_of (d_op (fun _ => op_mod) opd_mod (q_of (d_ix (fun i => ix_seqK (F.hK i)) opd_ix (q_of (d_var 2)) (q_of d_int))) (q_of d_int)))) (a_cons (d_var 3) (a_cons (d_var 4) (a_cons d_str a_nil))))) (len_cons (len_cons (len_cons (len_cons (len_cons len_nil)))))))
      (ss_cons
      (s_asg (d_call (fun _ => G_law_wide) (fun i => (F.room i).mono (by omega)) (fun _ => T.g_law_wide) (fun _ => T.k_law_wide) (fun _ => T.b_law_wide) (a_cons (d_var 5) (a_cons (d_sl F (q_of (d_var 2)) (o_some d_int) o_none) (a_cons d_int a_nil))) (len_cons (len_cons (len_cons len_nil)))) (g_tup F (gs_cons (g_name F 8) (gs_cons (g_name F 9) gs_nil))))
      (ss_cons
      (s_set F 6 (d_lst (a_cons (d_var 5) (a_cons (d_tup (a_cons d_str (a_cons (d_tup (a_cons d_str (a_cons (d_tup (a_cons d_str (a_cons d_str a_nil))) (a_cons (d_var 5) a_nil)))) a_nil))) a_nil))))
      (ss_one
      (s_for F (fun _ => PassesOwn.never) (i_range1 (fun _ => T.n_range) (a_cons d_int a_nil)) (g_name F 7) (ss_one
      (s_if (t_cmp (fun i => op_neK (F.hK i) (F.u64 i)) opd_ne (q_of (d_call (fun _ => G_law_told) (fun i => (F.room i).mono (by omega)) (fun _ => T.g_law_told) (fun _ => T.k_law_told) (fun _ => T.b_law_told) (a_cons (d_var 8) (a_cons (d_var 7) a_nil)) (len_cons (len_cons len_nil)))) (q_of (d_if (t_cmp (fun i => op_ltAll (F.hK i) (F.u64 i)) opd_lt (q_of (d_var 9)) (q_of d_int)) (d_tup (a_cons (d_ix (fun i => ix_seqK (F.hK i)) opd_ix (q_of (d_var 6)) (q_of (d_var 7))) (a_cons (d_lst a_nil) a_nil))) (d_tup (a_cons d_non (a_cons (d_lst (a_cons d_str (a_cons d_str a_nil))) a_nil)))))) (ss_one
      (s_ret d_bl)) ss_nil)))))))))))
      (ss_one
      (s_ret d_bl)))
end Rv
namespace Rv
open PySem L2 PySem.Spec PyProof.Rows
variable [Lz]
section
variable {m n : En → Option Fl} {me : En → Option PyData} {mt : En → Option Bool} {mi : En → Option (List PyData)} {env env' : En} {d : PyData} {r : Option Fl}
theorem ev_run {N : Nat} {ds : List PyData} {o : Option PyData} (h : (m (ds.map some ++ List.replicate (N - ds.length) none)) = some (.rt d)) (e : some d = o) : runB N m ds = o := by
  unfold runB
  rw [h]
  exact e
theorem ev_set {i : Nat} (h : me env = some d) (h2 : n (env.set i (some d)) = r) : mSeq (mAsg me (gB i)) n env = r := by
  unfold mSeq mAsg
  rw [h]
  exact h2
theorem ev_set1 {i : Nat} (h : me env = some d) (h2 : some (.nx (env.set i (some d))) = r) : mAsg me (gB i) env = r := by
  unfold mAsg
  rw [h]
  exact h2
theorem ev_bnd {b : PyData → En → Option En} (h : me env = some d) (hb : b d env = some env') (h2 : n env' = r) : mSeq (mAsg me b) n env = r := by
  unfold mSeq mAsg
  rw [h, Option.bind_some, hb]
  exact h2
theorem ev_for {b : PyData → En → Option En} {lb : En → Option Fl} {ds : List PyData} (h : mi env = some ds) (hl : loopD b lb ds env = some (.nx env')) (h2 : n env' = r) : mSeq (mFor mi b lb) n env = r := by
  unfold mSeq mFor
  rw [h, Option.bind_some, hl]
  exact h2
theorem ev_for1 {b : PyData → En → Option En} {lb : En → Option Fl} {ds : List PyData} (h : mi env = some ds) (hl : loopD b lb ds env = some (.nx env')) (h2 : some (.nx env') = r) : mFor mi b lb env = r := by
  unfold mFor
  rw [h, Option.bind_some, hl]
  exact h2
theorem ev_ret (h : me env = some d) : mRet me env = some (.rt d) := by
  unfold mRet
  rw [h]
  rfl
theorem ev_if1T {p : En → Option Fl} (h : mt env = some true) (h2 : m env = r) : mIfS mt m p env = r := by
  unfold mIfS
  rw [h, Option.bind_some, if_pos rfl]
  exact h2
theorem ev_if1F {p : En → Option Fl} (h : mt env = some false) (h2 : p env = r) : mIfS mt m p env = r := by
  unfold mIfS
  rw [h, Option.bind_some, if_neg Bool.false_ne_true]
  exact h2
theorem ev_ifT {p : En → Option Fl} (h : mt env = some true) (hm : m env = some (.nx env')) (h2 : n env' = r) : mSeq (mIfS mt m p) n env = r := by
  unfold mSeq mIfS
  rw [h, Option.bind_some, if_pos rfl, hm]
  exact h2
theorem ev_ifF {p : En → Option Fl} (h : mt env = some false) (hm : p env = some (.nx env')) (h2 : n env' = r) : mSeq (mIfS mt m p) n env = r := by
  unfold mSeq mIfS
  rw [h, Option.bind_some, if_neg Bool.false_ne_true, hm]
  exact h2
theorem ev_ifR {p : En → Option Fl} (h : mt env = some true) (hm : m env = some (.rt d)) : mSeq (mIfS mt m p) n env = some (.rt d) := by
  unfold mSeq mIfS
  rw [h, Option.bind_some, if_pos rfl, hm]
  rfl
theorem ev_seq (h : m env = some (.nx env')) (h2 : n env' = r) : mSeq m n env = r := by
  unfold mSeq
  rw [h]
  exact h2
theorem ev_app {i : Nat} {ds : List PyData} (hl : mVar i env = some (.list ds)) (h : me env = some d) (hz : ds.length < sizeLine) : mApp i me env = some (.nx (env.set i (some (.list (ds ++ [d]))))) := by
  unfold mApp
  rw [hl, Option.bind_some, h]
  exact if_pos hz
theorem ev_lc {vs : List Nat} {b : PyData → En → Option En} {ds es : List PyData} (h : mi env = some ds) (hl : lcD b mt me (wipeD env vs) ds = some es) (hz : es.length ≤ sizeLine) : mLc vs mi b mt me env = some (.list es) := by
  unfold mLc
  rw [h, Option.bind_some, hl, Option.bind_some, if_pos hz]
theorem ev_bin {f : PyData → PyData → Option PyData} {ma mb : En → Option PyData} {a b : PyData} {o : Option PyData} (h1 : ma env = some a) (h2 : mb env = some b) (h3 : f a b = o) : mBin f ma mb env = o := by
  unfold mBin
  rw [h1, Option.bind_some, h2]
  exact h3
theorem ev_cb {f : List PyData → Option PyData} {ms : En → Option (List PyData)} {ds : List PyData} {o : Option PyData} (h1 : ms env = some ds) (h2 : f ds = o) : mCB f ms env = o := by
  unfold mCB
  rw [h1]
  exact h2
theorem ev_cons {ms : En → Option (List PyData)} {ds : List PyData} (h1 : me env = some d) (h2 : ms env = some ds) : mCons me ms env = some (d :: ds) := by
  unfold mCons
  rw [h1, Option.bind_some, h2]
  rfl
theorem ev_tup {ms : En → Option (List PyData)} {ds : List PyData} (h1 : ms env = some ds) (h2 : ds.length ≤ sizeLine) : mTup ms env = some (.tuple ds) := by
  unfold mTup
  rw [h1, Option.bind_some, if_pos h2]
theorem ev_lst {ms : En → Option (List PyData)} {ds : List PyData} (h1 : ms env = some ds) (h2 : ds.length ≤ sizeLine) : mLst ms env = some (.list ds) := by
  unfold mLst
  rw [h1, Option.bind_some, if_pos h2]
theorem ev_sl {ma : En → Option PyData} {ml mh : En → Option (Option Int)} {a : PyData} {lo hi : Option Int} {o : Option PyData} (h1 : ma env = some a) (h2 : ml env = some lo) (h3 : mh env = some hi) (h4 : dSl a lo hi = o) : mSl ma ml mh env = o := by
  unfold mSl
  rw [h1, Option.bind_some, h2, Option.bind_some, h3]
  exact h4
theorem ev_part {i : Int} (h : me env = some (.int i)) : mPart me env = some (some i) := by
  unfold mPart
  rw [h]
  rfl
theorem ev_iT {ma mb : En → Option PyData} {o : Option PyData} (h : mt env = some true) (h2 : ma env = o) : mIf mt ma mb env = o := by
  unfold mIf
  rw [h, Option.bind_some, if_pos rfl]
  exact h2
theorem ev_iF {ma mb : En → Option PyData} {o : Option PyData} (h : mt env = some false) (h2 : mb env = o) : mIf mt ma mb env = o := by
  unfold mIf
  rw [h, Option.bind_some, if_neg Bool.false_ne_true]
  exact h2
theorem ev_tst {b : Bool} (h : me env = some (.bool b)) : mTst me env = some b := by
  unfold mTst
  rw [h]
  rfl
theorem ev_tru {b : Bool} (h : me env = some d) (h2 : truD d = some b) : mTru me env = some b := by
  unfold mTru
  rw [h]
  exact h2
theorem ev_rng {f : List PyData → Option (List PyData)} {ms : En → Option (List PyData)} {ds : List PyData} {o : Option (List PyData)} (h1 : ms env = some ds) (h2 : f ds = o) : mRng f ms env = o := by
  unfold mRng
  rw [h1]
  exact h2
theorem ev_it {o : Option (List PyData)} (h1 : me env = some d) (h2 : itemsD d = o) : mIt me env = o := by
  unfold mIt
  rw [h1]
  exact h2
end
theorem rng1_ok {j : Int} (h0 : -(2 ^ 62) ≤ j) (h1 : j < 2 ^ 62) : rng1 [.int j] = some (rangeD 0 j.toNat) := by
  unfold rng1
  exact if_pos ⟨h0, h1⟩
theorem dAdd_int (i j : Int) : dAdd (.int i) (.int j) = some (.int (i + j)) := rfl
theorem dSub_int (i j : Int) : dSub (.int i) (.int j) = some (.int (i - j)) := rfl
theorem dMul_int {i j : Int} (h : CMulA i j) : dMul (.int i) (.int j) = some (.int (i * j)) := if_pos h
theorem dDiv_int {i j : Int} (h : CDivW i j) : dDiv (.int i) (.int j) = some (.int (i / j)) := if_pos h
theorem dMod_int {i j : Int} (h : 0 < j) : dMod (.int i) (.int j) = some (.int (i % j)) := if_pos h
theorem dGt_int (i j : Int) : dGt (.int i) (.int j) = some (.bool (decide (j < i))) := rfl
theorem dGe_int (i j : Int) : dGe (.int i) (.int j) = some (.bool (decide (j ≤ i))) := rfl
theorem dLt_int (i j : Int) : dLt (.int i) (.int j) = some (.bool (decide (i < j))) := rfl
theorem dEq_int (i j : Int) : dEq (.int i) (.int j) = some (.bool (i == j)) := if_pos ⟨rfl, rfl⟩
theorem gB_ap (i : Nat) (d : PyData) (env : En) : gB i d env = some (env.set i (some d)) := rfl
theorem loop_inv {bind : PyData → En → Option En} {body : En → Option Fl} (Inv : Nat → En → Prop) {ds : List PyData} {env : En} (h0 : Inv 0 env)
    (step : ∀ i d e, ds[i]? = some d → Inv i e → ∃ e1 e2, bind d e = some e1 ∧ (body e1 = some (.nx e2) ∨ body e1 = some (.ct e2)) ∧ Inv (i + 1) e2) : ∃ e', loopD bind body ds env = some (.nx e') ∧ Inv ds.length e' := by
  have go : ∀ (rest : List PyData) (i : Nat) (e : En), ds.drop i = rest → Inv i e → i ≤ ds.length → ∃ e', loopD bind body rest e = some (.nx e') ∧ Inv ds.length e' := fun rest => by
    induction rest with
    | nil =>
      intro i e hd hi hle
      have : i = ds.length := by
        have := List.drop_eq_nil_iff.mp hd
        omega
      subst this
      exact ⟨e, rfl, hi⟩
    | cons d rest ih =>
      intro i e hd hi hle
      have hlt : i < ds.length := by
        by_cases z : i < ds.length
        · exact z
        · rw [List.drop_of_length_le (by omega)] at hd
          cases hd
      rw [List.drop_eq_getElem_cons hlt] at hd
      injection hd with hd1 hd2
      obtain ⟨e1, e2, h1, h2, h3⟩ := step i d e (by rw [← hd1]; exact List.getElem?_eq_getElem hlt) hi
      obtain ⟨e', h4, h5⟩ := ih (i + 1) e2 hd2 h3 hlt
      refine ⟨e', ?_, h5⟩
      show ((bind d e).bind _) = _
      rw [h1, Option.bind_some]
      rcases h2 with h2 | h2
      · rw [h2, Option.bind_some]
        exact h4
      · rw [h2, Option.bind_some]
        exact h4
  exact go ds 0 env rfl h0 (Nat.zero_le _)
theorem rangeD_len (lo : Int) (n : Nat) : (rangeD lo n).length = n := by
  simp only [rangeD, List.length_map, List.length_range]
theorem rangeD_get {lo : Int} {n i : Nat} {d : PyData} (h : (rangeD lo n)[i]? = some d) : i < n ∧ d = .int (lo + (i : Int)) := by
  have hi : i < n := by
    have := (List.getElem?_eq_some_iff.mp h).1
    rw [rangeD_len] at this
    exact this
  unfold rangeD at h
  rw [List.getElem?_map, List.getElem?_range hi] at h
  cases h
  exact ⟨hi, rfl⟩
theorem loop_range {bind : PyData → En → Option En} {body : En → Option Fl} (Inv : Nat → En → Prop) {lo : Int} {n : Nat} {env : En} (h0 : Inv 0 env)
    (step : ∀ (i : Nat) e, i < n → Inv i e → ∃ e1 e2, bind (.int (lo + (i : Int))) e = some e1 ∧ (body e1 = some (.nx e2) ∨ body e1 = some (.ct e2)) ∧ Inv (i + 1) e2) : ∃ e', loopD bind body (rangeD lo n) env = some (.nx e') ∧ Inv n e' := by
  have := loop_inv (ds := rangeD lo n) Inv h0 fun i d e hd hi => by
    obtain ⟨h1, rfl⟩ := rangeD_get hd
    exact step i e h1 hi
  rw [rangeD_len] at this
  exact this
theorem lc_map {bind : PyData → En → Option En} {mt : En → Option Bool} {me : En → Option PyData} {env : En} {f : PyData → PyData} : ∀ {ds : List PyData}, (∀ d ∈ ds, ∃ e1, bind d env = some e1 ∧ mt e1 = some true ∧ me e1 = some (f d)) → lcD bind mt me env ds = some (ds.map f)
  | [], _ => rfl
  | d :: ds, h => by
    obtain ⟨e1, h1, h2, h3⟩ := h d List.mem_cons_self
    have ih := lc_map (f := f) (ds := ds) fun x hx => h x (List.mem_cons_of_mem _ hx)
    show ((bind d env).bind _) = _
    rw [h1, Option.bind_some, h2, Option.bind_some, if_pos rfl, h3, Option.bind_some, ih]
    rfl
theorem lc_filter {bind : PyData → En → Option En} {mt : En → Option Bool} {me : En → Option PyData} {env : En} {f : PyData → PyData} {p : PyData → Bool} : ∀ {ds : List PyData}, (∀ d ∈ ds, ∃ e1, bind d env = some e1 ∧ mt e1 = some (p d) ∧ me e1 = some (f d)) → lcD bind mt me env ds = some ((ds.filter p).map f)
  | [], _ => rfl
  | d :: ds, h => by
    obtain ⟨e1, h1, h2, h3⟩ := h d List.mem_cons_self
    have ih := lc_filter (f := f) (p := p) (ds := ds) fun x hx => h x (List.mem_cons_of_mem _ hx)
    show ((bind d env).bind _) = _
    rw [h1, Option.bind_some, h2, Option.bind_some]
    cases hp : p d with
    | true =>
      rw [if_pos rfl, h3, Option.bind_some, ih, List.filter_cons, if_pos hp]
      rfl
    | false =>
      rw [if_neg Bool.false_ne_true, ih, List.filter_cons, if_neg (by rw [hp]; exact Bool.false_ne_true)]
theorem cmulR {i j : Int} (h1 : -(2 ^ 64) < j) (h2 : j < 2 ^ 64) : CMulA i j := .inl (.inr ⟨h1, h2⟩)
theorem cmulL {i j : Int} (h1 : -(2 ^ 64) < i) (h2 : i < 2 ^ 64) : CMulA i j := .inl (.inl ⟨h1, h2⟩)
theorem cdivS {i j : Int} (h1 : 0 < j) (h2 : j < 2 ^ 62) : CDivW i j := wide_div (b := 62) h1 (by omega) (by decide) (by decide)
theorem line_big {n : Nat} (h : n ≤ 100000) : n ≤ sizeLine := Nat.le_trans h (by decide)
theorem line_lt {n : Nat} (h : n < 100000) : n < sizeLine := Nat.lt_of_lt_of_le h (by decide)
/-- sums -/
def sw (f : Nat → Int) : Nat → Int
  | 0 => 0
  | n + 1 => sw f n + f n
structure Col where
  name : Str
  size : Int
  op : Bool
def Col.enc (c : Col) : PyData := .tuple [.str c.name, .int c.size, .bool c.op]
def b2 (b : Bool) : Int := if b then 1 else 0
def Col.many (c : Col) : Int := c.size + b2 c.op
def Col.Ok (c : Col) : Prop := 1 ≤ c.size ∧ c.size ≤ 9
theorem b2_le (b : Bool) : 0 ≤ b2 b ∧ b2 b ≤ 1 := by cases b <;> decide
theorem Col.Ok.many {c : Col} (h : c.Ok) : 1 ≤ c.many ∧ c.many ≤ 10 := by
  have := b2_le c.op
  obtain ⟨h1, h2⟩ := h
  unfold Col.many
  omega
def prodM : List Col → Int
  | [] => 1
  | c :: cs => c.many * prodM cs
theorem prodM_app : ∀ (as bs : List Col), prodM (as ++ bs) = prodM as * prodM bs
  | [], bs => by simp [prodM]
  | c :: cs, bs => by
    show c.many * prodM (cs ++ bs) = c.many * prodM cs * prodM bs
    rw [prodM_app cs bs, Int.mul_assoc]
theorem prodM_pos : ∀ {cs : List Col}, (∀ c ∈ cs, c.Ok) → 1 ≤ prodM cs
  | [], _ => by simp [prodM]
  | c :: cs, h => by
    have h1 := (h c List.mem_cons_self).many.1
    have h2 := prodM_pos (cs := cs) fun x hx => h x (List.mem_cons_of_mem _ hx)
    show 1 ≤ c.many * prodM cs
    have := Int.mul_le_mul h1 h2 (by decide) (by omega)
    omega
structure Tab where
  name : Str
  key : Nat
  cols : List Col
def Tab.enc (t : Tab) : PyData := .tuple [.str t.name, .int t.key, .tuple (t.cols.map Col.enc)]
theorem cutD_drop (xs : List PyData) (k : Nat) : cutD xs (some (k : Int)) none = xs.drop k := by
  unfold cutD
  rw [HT.sIx_nat, HT.sIx_none]
  by_cases h : k ≤ xs.length
  · rw [Nat.min_eq_left h]
    refine List.take_of_length_le ?_
    rw [List.length_drop]
    omega
  · rw [Nat.min_eq_right (by omega), List.drop_length, List.drop_of_length_le (by omega), List.take_nil]
theorem cutD_mid (xs : List PyData) (a b : Nat) : cutD xs (some (a : Int)) (some (b : Int)) = (xs.drop a).take (b - a) := by
  unfold cutD
  rw [HT.sIx_nat, HT.sIx_nat]
  by_cases h : a ≤ xs.length
  · rw [Nat.min_eq_left h]
    by_cases h2 : b ≤ xs.length
    · rw [Nat.min_eq_left h2]
    · rw [Nat.min_eq_right (by omega), List.take_of_length_le (by rw [List.length_drop]; omega), List.take_of_length_le (by rw [List.length_drop]; omega)]
  · rw [Nat.min_eq_right (show xs.length ≤ a by omega), List.drop_length, List.drop_of_length_le (show xs.length ≤ a by omega), List.take_nil, List.take_nil]
section
variable {env : En}
theorem ev_andT {ma mb : En → Option Bool} {b : Bool} (h : ma env = some true) (h2 : mb env = some b) : mAndT ma mb env = some b := by
  unfold mAndT
  rw [h, Option.bind_some, if_pos rfl]
  exact h2
theorem ev_andF {ma mb : En → Option Bool} (h : ma env = some false) : mAndT ma mb env = some false := by
  unfold mAndT
  rw [h, Option.bind_some, if_neg Bool.false_ne_true]
theorem ev_orT {ma mb : En → Option Bool} (h : ma env = some true) : mOrT ma mb env = some true := by
  unfold mOrT
  rw [h, Option.bind_some, if_pos rfl]
theorem ev_orF {ma mb : En → Option Bool} {b : Bool} (h : ma env = some false) (h2 : mb env = some b) : mOrT ma mb env = some b := by
  unfold mOrT
  rw [h, Option.bind_some, if_neg Bool.false_ne_true]
  exact h2
theorem ev_notT {ma : En → Option Bool} {b : Bool} (h : ma env = some b) : mNotT ma env = some (!b) := by
  unfold mNotT
  rw [h]
  rfl
end
def Dr (x : Int) : Prop := 0 ≤ x ∧ x < 1000
theorem draws_step {cell many rest st : Int} {fs : List Int} {z : Option PyData} {i : Nat} (hr : 0 ≤ rest) (hs0 : 0 ≤ st) (hs1 : st < 2305843009213693951) (hi : i ≤ 10000) (hf : fs.length ≤ 10000) (hd : ∀ x ∈ fs, Dr x) :
    ∃ (gs : List Int) (rest' st' : Int), lb1_law_draws [some (.int cell), some (.int many), some (.int 1000), some (.list (fs.map .int)), some (.int rest), some (.int st), some (.int (i : Int))] = some (.nx [some (.int cell), some (.int many), some (.int 1000), some (.list (gs.map .int)), some (.int rest'), some (.int st'), some (.int (i : Int))]) ∧
      gs.length = fs.length + (if 2 < i then 1 else 0) ∧ (∀ x ∈ gs, Dr x) ∧ 0 ≤ rest' ∧ 0 ≤ st' ∧ st' < 2305843009213693951 := by
  have hP : (0 : Int) < 2305843009213693951 := by decide
  generalize hst : (st * st + 48271 * st + (i : Int) + 1) % 2305843009213693951 = st2
  have h20 : 0 ≤ st2 := by rw [← hst]; exact Int.emod_nonneg _ (by decide)
  have h21 : st2 < 2305843009213693951 := by rw [← hst]; exact Int.emod_lt_of_pos _ hP
  have e1 : (mBin dMod (mBin dAdd (mBin dAdd (mBin dAdd (mBin dMul (mVar 5) (mVar 5)) (mBin dMul (mC (.int 48271)) (mVar 5))) (mVar 6)) (mC (.int 1))) (mC (.int 2305843009213693951))) [some (.int cell), some (.int many), some (.int 1000), some (.list (fs.map .int)), some (.int rest), some (.int st), some (.int (i : Int))] = some (.int st2) := by
    refine ev_bin (a := .int (st * st + 48271 * st + (i : Int) + 1)) (ev_bin (a := .int (st * st + 48271 * st + (i : Int))) (ev_bin (a := .int (st * st + 48271 * st)) (ev_bin (a := .int (st * st)) (b := .int (48271 * st)) (ev_bin rfl rfl (dMul_int (cmulL (by omega) (by omega)))) (ev_bin rfl rfl (dMul_int (cmulL (by decide) (by decide)))) (dAdd_int _ _)) rfl (dAdd_int _ _)) rfl (dAdd_int _ _)) rfl ?_
    rw [dMod_int hP, hst]
  have app : ∀ {e1 : En} {x : Int}, Dr x → ∀ y ∈ fs ++ [x], Dr y := fun hx y hy => by
    rcases List.mem_append.mp hy with h | h
    · exact hd y h
    · rw [List.mem_singleton.mp h]
      exact hx
  have lz : (fs.map PyData.int).length < sizeLine := line_lt (by rw [List.length_map]; omega)
  have am : ∀ x : Int, fs.map PyData.int ++ [.int x] = (fs ++ [x]).map PyData.int := fun x => by rw [List.map_append]; rfl
  unfold lb1_law_draws
  by_cases h2 : 2 < i
  · have t2 : (mTst (mBin dGt (mVar 6) (mC (.int 2)))) [some (.int cell), some (.int many), some (.int 1000), some (.list (fs.map .int)), some (.int rest), some (.int st2), some (.int (i : Int))] = some true := by
      refine ev_tst (ev_bin rfl rfl ?_)
      rw [dGt_int, decide_eq_true (by omega)]
    by_cases h3 : 0 < rest
    · refine ⟨fs ++ [rest % 1000], rest / 1000, st2, ?_, by rw [if_pos h2, List.length_append]; rfl, app (e1 := []) ⟨Int.emod_nonneg _ (by decide), Int.emod_lt_of_pos _ (by decide)⟩, Int.ediv_nonneg hr (by decide), h20, h21⟩
      refine ev_set e1 ?_
      refine ev_if1T (ev_andT t2 (ev_tst (ev_bin rfl rfl ?_))) ?_
      · rw [dGt_int, decide_eq_true h3]
      · refine ev_seq (ev_app (ds := fs.map .int) (d := .int (rest % 1000)) rfl (ev_bin rfl rfl (dMod_int (by decide))) lz) ?_
        refine ev_set1 (d := .int (rest / 1000)) (ev_bin rfl rfl (dDiv_int (cdivS (by decide) (by decide)))) ?_
        rw [am]
        rfl
    · refine ⟨fs ++ [st2 / 4096 % 1000], rest, st2, ?_, by rw [if_pos h2, List.length_append]; rfl, app (e1 := []) ⟨Int.emod_nonneg _ (by decide), Int.emod_lt_of_pos _ (by decide)⟩, hr, h20, h21⟩
      refine ev_set e1 ?_
      refine ev_if1F (ev_andT t2 (ev_tst (ev_bin rfl rfl ?_))) ?_
      · rw [dGt_int, decide_eq_false h3]
      · refine ev_if1T t2 ?_
        rw [ev_app (ds := fs.map .int) (d := .int (st2 / 4096 % 1000)) rfl (ev_bin (ev_bin rfl rfl (dDiv_int (cdivS (by decide) (by decide)))) rfl (dMod_int (by decide))) lz, am]
        rfl
  · have t2 : (mTst (mBin dGt (mVar 6) (mC (.int 2)))) [some (.int cell), some (.int many), some (.int 1000), some (.list (fs.map .int)), some (.int rest), some (.int st2), some (.int (i : Int))] = some false := by
      refine ev_tst (ev_bin rfl rfl ?_)
      rw [dGt_int, decide_eq_false (by omega)]
    refine ⟨fs, rest, st2, ?_, by rw [if_neg h2]; rfl, hd, hr, h20, h21⟩
    refine ev_set e1 ?_
    refine ev_if1F (ev_andF t2) (ev_if1F t2 rfl)
theorem draws_eq (cell : Int) (many : Nat) (hm : many ≤ 5000) : ∃ ns : List Int, fm_law_draws [.int cell, .int many, .int 1000] = some (.list (ns.map .int)) ∧ ns.length = many ∧ ∀ x ∈ ns, Dr x := by
  generalize hr : cell * (if (1000000000000000000 : Int) ≤ cell then 1 else 0) = rest
  have hr0 : 0 ≤ rest := by
    rw [← hr]
    split
    · omega
    · omega
  have loop : ∃ e', loopD (gB 6) lb1_law_draws (rangeD 0 (many + 3)) [some (.int cell), some (.int many), some (.int 1000), some (.list []), some (.int rest), some (.int (cell % 2305843009213693951)), none] = some (.nx e') ∧
      ∃ (fs : List Int) (rest st : Int) (z : Option PyData), e' = [some (.int cell), some (.int many), some (.int 1000), some (.list (fs.map .int)), some (.int rest), some (.int st), z] ∧ fs.length = many + 3 - 3 ∧ (∀ x ∈ fs, Dr x) ∧ 0 ≤ rest ∧ 0 ≤ st ∧ st < 2305843009213693951 := by
    refine loop_range (fun i e => ∃ (fs : List Int) (rest st : Int) (z : Option PyData), e = [some (.int cell), some (.int many), some (.int 1000), some (.list (fs.map .int)), some (.int rest), some (.int st), z] ∧ fs.length = i - 3 ∧ (∀ x ∈ fs, Dr x) ∧ 0 ≤ rest ∧ 0 ≤ st ∧ st < 2305843009213693951)
      ⟨[], rest, _, none, rfl, rfl, (fun _ h => absurd h (by simp)), hr0, Int.emod_nonneg _ (by decide), Int.emod_lt_of_pos _ (by decide)⟩ fun i e hi he => ?_
    obtain ⟨fs, rs, st, z, rfl, h1, h2, h3, h4, h5⟩ := he
    obtain ⟨gs, rs', st', g1, g2, g3, g4, g5, g6⟩ := draws_step (cell := cell) (many := many) (z := z) h3 h4 h5 (i := i) (by omega) (by omega) h2
    refine ⟨_, _, rfl, .inl ?_, gs, rs', st', some (.int (i : Int)), rfl, ?_, g3, g4, g5, g6⟩
    · rw [Int.zero_add]
      exact g1
    · rw [g2, h1]
      split <;> omega
  obtain ⟨e', h1, fs, rs, st, z, rfl, h2, h3, _⟩ := loop
  refine ⟨fs, ?_, by omega, h3⟩
  unfold fm_law_draws mb_law_draws
  refine ev_run (d := .list (fs.map .int)) ?_ rfl
  refine ev_set (d := .list []) (ev_lst rfl (Nat.zero_le _)) ?_
  refine ev_set (d := .int rest) (ev_bin (a := .int cell) (b := .int (if (1000000000000000000 : Int) ≤ cell then 1 else 0)) rfl (ev_cb (ds := [.bool (decide ((1000000000000000000 : Int) ≤ cell))]) (ev_cons (ev_bin (b := .int 1000000000000000000) rfl (ev_bin rfl rfl ?_) (dGe_int _ _)) rfl) ?_) ?_) ?_
  · show (if CPow 10 18 then some (PyData.int ((10 : Int) ^ (18 : Int).toNat)) else none) = _
    rw [if_pos (show CPow 10 18 from ⟨by decide, by decide, by decide⟩), show ((10 : Int) ^ (18 : Int).toNat) = 1000000000000000000 by decide]
  · show some (PyData.int (if decide ((1000000000000000000 : Int) ≤ cell) = true then 1 else 0)) = _
    by_cases h : (1000000000000000000 : Int) ≤ cell
    · rw [decide_eq_true h, if_pos rfl, if_pos h]
    · rw [decide_eq_false h, if_neg Bool.false_ne_true, if_neg h]
  · rw [dMul_int (cmulR (by split <;> decide) (by split <;> decide)), hr]
  refine ev_set (d := .int (cell % 2305843009213693951)) (ev_bin rfl rfl (dMod_int (by decide))) ?_
  refine ev_for (ds := rangeD 0 (many + 3)) ?_ h1 (ev_ret rfl)
  refine ev_rng (ev_cons (ev_bin rfl rfl (dAdd_int _ _)) rfl) ?_
  rw [rng1_ok (by omega) (by omega)]
  congr 2
def mkS (cs : List Nat) : Str := ⟨cs.toArray⟩
theorem mkS_app (a b : List Nat) : mkS a ++ mkS b = mkS (a ++ b) := by
  show (⟨a.toArray ++ b.toArray⟩ : Str) = ⟨(a ++ b).toArray⟩
  rw [List.append_toArray]
theorem mkS_len (a : List Nat) : (mkS a).length = a.length := by
  show a.toArray.size = _
  rw [List.size_toArray]
theorem mkS_cps (a : List Nat) : (mkS a).cps.toList = a := rfl
theorem mkS_inj {a b : List Nat} (h : mkS a = mkS b) : a = b := by
  have : (mkS a).cps.toList = (mkS b).cps.toList := by rw [h]
  exact this
theorem cutS_mk (a : List Nat) (k : Nat) : cutS (mkS a) none (some (k : Int)) = mkS (a.take k) := by
  unfold cutS
  rw [HT.sIx_nat, HT.sIx_none, mkS_len]
  show mkS ((a.drop 0).take (min k a.length - 0)) = _
  rw [List.drop_zero, Nat.sub_zero]
  by_cases h : k ≤ a.length
  · rw [Nat.min_eq_left h]
  · rw [Nat.min_eq_right (by omega), List.take_length, List.take_of_length_le (by omega)]
def barL : List Str := ["rows", "view", "where", "keep", "named", "pairs", "both", "less", "count", "seal", "and", "or", "not", "mine", "empty", "loud", "yes", "has"]
def Lc (c : Nat) : Prop := 97 ≤ c ∧ c ≤ 122
structure NmOk (w : Str) : Prop where
  cs : ∃ cs : List Nat, w = mkS cs ∧ 1 ≤ cs.length ∧ cs.length ≤ 8 ∧ ∀ c ∈ cs, Lc c
  free : w ∉ barL
theorem shaped_str {cs : List Nat} (h : ∀ c ∈ cs, Lc c) : SeqAt.shaped (.str (mkS cs)) = true := by
  unfold SeqAt.shaped
  rw [Bool.and_eq_true]
  refine ⟨?_, rfl⟩
  show PySem.PyData.strOk (mkS cs) = true
  unfold PySem.PyData.strOk mkS
  rw [List.all_toArray, List.all_eq_true]
  intro c hc
  have := h c hc
  unfold Lc at this
  refine decide_eq_true ?_
  omega
theorem NmOk.shaped {w : Str} (h : NmOk w) : SeqAt.shaped (.str w) = true := by
  obtain ⟨cs, rfl, _, _, h4⟩ := h.cs
  exact shaped_str h4
theorem shaped_strs : ∀ {ws : List Str}, (∀ w ∈ ws, SeqAt.shaped (.str w) = true) → SeqAt.shaped (.list (ws.map .str)) = true := fun {ws} h => by
  unfold SeqAt.shaped
  rw [Bool.and_eq_true]
  have h1 : PyData.canLayAll0 (ws.map .str) = true := by
    induction ws with
    | nil => simp [PyData.canLayAll0]
    | cons w ws ih =>
      rw [List.map_cons, PyData.canLayAll0, Bool.and_eq_true]
      refine ⟨?_, ih fun x hx => h x (List.mem_cons_of_mem _ hx)⟩
      have := h w List.mem_cons_self
      unfold SeqAt.shaped at this
      rw [Bool.and_eq_true] at this
      exact this.1
  have h2 : PyData.depthAll (ws.map .str) = 0 := by
    clear h h1
    induction ws with
    | nil => simp [PyData.depthAll]
    | cons w ws ih =>
      rw [List.map_cons, PyData.depthAll, ih]
      simp [PyData.depth]
  refine ⟨by rw [PyData.canLay0]; exact h1, ?_⟩
  rw [PyData.depth, h2]
  rfl
theorem dIn_strs {neg : Bool} {w : Str} {ws : List Str} (h1 : SeqAt.shaped (.str w) = true) (h2 : ∀ x ∈ ws, SeqAt.shaped (.str x) = true) : dIn neg (.str w) (.list (ws.map .str)) = some (.bool (xor neg (decide (w ∈ ws)))) := by
  have e : (ws.map PyData.str).any (fun z => PyData.eqv z (.str w)) = decide (w ∈ ws) := by
    rw [List.any_map]
    clear h1 h2
    induction ws with
    | nil => simp
    | cons x ws ih =>
      rw [List.any_cons, ih]
      show (PyData.eqv (.str x) (.str w) || decide (w ∈ ws)) = decide (w ∈ x :: ws)
      rw [PyData.eqv]
      by_cases z : x = w
      · subst z
        simp
      · have z' : ¬ w = x := fun q => z q.symm
        simp [z, z']
  show (if SeqAt.shaped (.str w) = true ∧ SeqAt.shaped (.list (ws.map .str)) = true then some (PyData.bool (xor neg ((ws.map PyData.str).any fun z => PyData.eqv z (.str w)))) else none) = _
  rw [if_pos ⟨h1, shaped_strs h2⟩, e]
theorem codesL : (Str.ofString "abcdefghijklmnopqrstuvwxyz").cps.toList = (List.range 26).map (97 + ·) := by decide +kernel
theorem lenL : (Str.ofString "abcdefghijklmnopqrstuvwxyz").length ≤ sizeLine := by decide +kernel
theorem dIx_letters {j : Nat} (h : j < 26) : dIx (.str "abcdefghijklmnopqrstuvwxyz") (.int (j : Int)) = some (.str (mkS [97 + j])) := by
  show (if (Str.ofString "abcdefghijklmnopqrstuvwxyz").length ≤ sizeLine then (atI (Str.ofString "abcdefghijklmnopqrstuvwxyz").cps.toList (j : Int)).map fun c => PyData.str ⟨#[c]⟩ else none) = _
  rw [if_pos lenL, codesL, atI_nat (v := 97 + j) (by rw [List.getElem?_map, List.getElem?_range h]; rfl)]
  rfl
theorem dAdd_str {a b : List Nat} (h : a.length + b.length ≤ 1000) : dAdd (.str (mkS a)) (.str (mkS b)) = some (.str (mkS (a ++ b))) := by
  show (if (mkS a).length + (mkS b).length ≤ sizeLine then some (PyData.str (mkS a ++ mkS b)) else none) = _
  rw [if_pos (by rw [mkS_len, mkS_len]; exact line_big (by omega)), mkS_app]
theorem dAdd_list {xs ys : List PyData} (h : xs.length + ys.length ≤ 100000) : dAdd (.list xs) (.list ys) = some (.list (xs ++ ys)) := if_pos (line_big h)
theorem dIx_zero (x : PyData) (xs : List PyData) : dIx (.list (x :: xs)) (.int 0) = some x := by
  show atI (x :: xs) ((0 : Nat) : Int) = _
  exact atI_nat rfl
theorem barZ : ∀ b ∈ barL, b.cps.toList.getLast? ≠ some 122 := by decide +kernel
theorem barShape : ∀ b ∈ barL, SeqAt.shaped (.str b) = true := by
  intro b hb
  have : PySem.PyData.strOk b = true := by
    revert b
    decide +kernel
  unfold SeqAt.shaped
  rw [Bool.and_eq_true]
  exact ⟨this, rfl⟩
theorem nodup_sub {α : Type} [DecidableEq α] : ∀ {as bs : List α}, as.Nodup → (∀ a ∈ as, a ∈ bs) → as.length ≤ bs.length
  | [], bs, _, _ => Nat.zero_le bs.length
  | a :: as, bs, hn, hs => by
    have h1 := List.nodup_cons.mp hn
    have ha := hs a List.mem_cons_self
    have := nodup_sub (as := as) (bs := bs.erase a) h1.2 fun x hx => (List.mem_erase_of_ne fun (e : x = a) => h1.1 (by rw [← e]; exact hx)).mpr (hs x (List.mem_cons_of_mem _ hx))
    rw [List.length_erase_of_mem ha] at this
    have hp : 0 < bs.length := List.length_pos_of_mem ha
    rw [List.length_cons]
    omega
def cands (cs : List Nat) : List Str := mkS cs :: (List.range 26).map fun j => mkS (cs.take 6 ++ [97 + j] ++ [122])
theorem cands_name {cs : List Nat} (h1 : 1 ≤ cs.length) (h2 : cs.length ≤ 8) (h3 : ∀ c ∈ cs, Lc c) : ∀ w ∈ cands cs, ∃ ds : List Nat, w = mkS ds ∧ 1 ≤ ds.length ∧ ds.length ≤ 8 ∧ ∀ c ∈ ds, Lc c := fun w hw => by
  rcases List.mem_cons.mp hw with rfl | hw
  · exact ⟨cs, rfl, h1, h2, h3⟩
  · obtain ⟨j, hj, rfl⟩ := List.mem_map.mp hw
    have hj := List.mem_range.mp hj
    refine ⟨_, rfl, ?_, ?_, fun c hc => ?_⟩
    · simp
    · simp
      omega
    · rcases List.mem_append.mp hc with hc | hc
      · rcases List.mem_append.mp hc with hc | hc
        · exact h3 c (List.mem_of_mem_take hc)
        · rw [List.mem_singleton.mp hc]
          unfold Lc
          omega
      · rw [List.mem_singleton.mp hc]
        unfold Lc
        omega
theorem cands_free {cs : List Nat} {taken : List Str} (hl : taken.length ≤ 20) : ∃ w ∈ cands cs, w ∉ taken ∧ w ∉ barL := by
  by_cases h : ∃ w ∈ cands cs, w ∉ taken ∧ w ∉ barL
  · exact h
  · have hall : ∀ w ∈ (List.range 26).map fun j => mkS (cs.take 6 ++ [97 + j] ++ [122]), w ∈ taken := fun w hw => by
      by_cases z : w ∈ taken
      · exact z
      · refine absurd ⟨w, List.mem_cons_of_mem _ hw, z, fun hb => ?_⟩ h
        obtain ⟨j, _, rfl⟩ := List.mem_map.mp hw
        refine barZ _ hb ?_
        rw [mkS_cps, List.getLast?_append]
        rfl
    have hn : ((List.range 26).map fun j => mkS (cs.take 6 ++ [97 + j] ++ [122])).Nodup := by
      rw [List.nodup_iff_pairwise_ne, List.pairwise_map]
      refine List.Pairwise.imp (R := fun (a b : Nat) => a ≠ b) (S := fun a b => mkS (cs.take 6 ++ [97 + a] ++ [122]) ≠ mkS (cs.take 6 ++ [97 + b] ++ [122])) (fun {a b} hab => fun e => hab ?_) (List.nodup_iff_pairwise_ne.mp List.nodup_range)
      have e1 := mkS_inj e
      have e2 := List.append_cancel_right e1
      have e3 := List.append_cancel_left e2
      have e4 : 97 + a = 97 + b := by
        injection e3
      omega
    have := nodup_sub hn hall
    rw [List.length_map, List.length_range] at this
    omega
theorem splitB : Txt.split "rows view where keep named pairs both less count seal and or not mine empty loud yes has" " " = barL := by decide +kernel
theorem pick_get {some5 : List Int} {k : Nat} (h : k < some5.length) : dIx (.list (some5.map .int)) (.int (k : Int)) = some (.int (some5.getD k 0)) := by
  show atI _ _ = _
  refine atI_nat ?_
  simp only [List.getElem?_map, List.getD_eq_getElem?_getD, List.getElem?_eq_getElem h]
  rfl
theorem name_eq {ps : List Int} {taken : List Str} (hp : 5 ≤ ps.length) (ht : ∀ t ∈ taken, SeqAt.shaped (.str t) = true) (hl : taken.length ≤ 20) :
    ∃ w : Str, fm_law_name [.list (ps.map .int), .list (taken.map .str)] = some (.str w) ∧ NmOk w ∧ w ∉ taken := by
  generalize hn : (1 + ps.getD 0 0 % 8) = n
  have hn1 : 1 ≤ n ∧ n ≤ 8 := by
    have h1 := Int.emod_nonneg (ps.getD 0 0) (show (8 : Int) ≠ 0 by decide)
    have h2 := Int.emod_lt_of_pos (ps.getD 0 0) (show (0 : Int) < 8 by decide)
    omega
  have loop : ∀ size0 : Int, ∃ e', loopD (gB 5) lb1_law_name (rangeD 0 n.toNat) [some (.list (ps.map .int)), some (.list (taken.map .str)), some (.str "abcdefghijklmnopqrstuvwxyz"), some (.int size0), some (.str ""), none, none, none, none, none] = some (.nx e') ∧
      ∃ (cs : List Nat) (size : Int) (z : Option PyData), e' = [some (.list (ps.map .int)), some (.list (taken.map .str)), some (.str "abcdefghijklmnopqrstuvwxyz"), some (.int size), some (.str (mkS cs)), z, none, none, none, none] ∧ cs.length = n.toNat ∧ ∀ c ∈ cs, Lc c := by
    intro size0
    refine loop_range (fun i e => ∃ (cs : List Nat) (size : Int) (z : Option PyData), e = [some (.list (ps.map .int)), some (.list (taken.map .str)), some (.str "abcdefghijklmnopqrstuvwxyz"), some (.int size), some (.str (mkS cs)), z, none, none, none, none] ∧ cs.length = i ∧ ∀ c ∈ cs, Lc c)
      ⟨[], size0, none, rfl, rfl, fun _ h => absurd h (by simp)⟩ fun i e hi he => ?_
    obtain ⟨cs, size, z, rfl, h1, h2⟩ := he
    have j0 := Int.emod_nonneg size (show (26 : Int) ≠ 0 by decide)
    have j1 := Int.emod_lt_of_pos size (show (0 : Int) < 26 by decide)
    generalize hj : (size % 26).toNat = j
    have ej : size % 26 = (j : Int) := by omega
    refine ⟨_, _, rfl, .inl ?_, cs ++ [97 + j], size / 26, some (.int (0 + (i : Int))), rfl, by rw [List.length_append, h1]; rfl, fun c hc => ?_⟩
    · unfold lb1_law_name
      refine ev_set (d := .str (mkS (cs ++ [97 + j]))) (ev_bin (a := .str (mkS cs)) (b := .str (mkS [97 + j])) rfl (ev_bin (b := .int (j : Int)) rfl (ev_bin rfl rfl ?_) (dIx_letters (by omega))) (dAdd_str (by rw [h1]; simp; omega))) ?_
      · rw [dMod_int (by decide), ej]
      · exact ev_set1 (d := .int (size / 26)) (ev_bin rfl rfl (dDiv_int (cdivS (by decide) (by decide)))) rfl
    · rcases List.mem_append.mp hc with hc | hc
      · exact h2 c hc
      · rw [List.mem_singleton.mp hc]
        unfold Lc
        omega
  generalize hsz : (((ps.getD 1 0 * 1000 + ps.getD 2 0) * 1000 + ps.getD 3 0) * 1000 + ps.getD 4 0) = size0
  obtain ⟨e', h1, cs, size, z, rfl, h2, h3⟩ := loop size0
  have hc1 : 1 ≤ cs.length := by omega
  have hc2 : cs.length ≤ 8 := by omega
  have hcn := cands_name hc1 hc2 h3
  have hsh : ∀ w ∈ cands cs, SeqAt.shaped (.str w) = true := fun w hw => by
    obtain ⟨ds, rfl, _, _, h⟩ := hcn w hw
    exact shaped_str h
  have hfil : ∃ w r, ((cands cs).filter fun w => decide (w ∉ taken) && decide (w ∉ barL)) = w :: r := by
    obtain ⟨w, hw, h4, h5⟩ := cands_free (cs := cs) hl
    cases hf : ((cands cs).filter fun w => decide (w ∉ taken) && decide (w ∉ barL)) with
    | nil =>
      have := List.filter_eq_nil_iff.mp hf w hw
      simp [h4, h5] at this
    | cons w r => exact ⟨w, r, rfl⟩
  obtain ⟨w, r, hw⟩ := hfil
  have hwm : w ∈ (cands cs).filter fun w => decide (w ∉ taken) && decide (w ∉ barL) := by
    rw [hw]
    exact List.mem_cons_self
  obtain ⟨hwc, hwp⟩ := List.mem_filter.mp hwm
  simp only [Bool.and_eq_true, decide_eq_true_eq] at hwp
  refine ⟨w, ?_, ⟨hcn w hwc, hwp.2⟩, hwp.1⟩
  unfold fm_law_name mb_law_name
  refine ev_run (d := .str w) ?_ rfl
  refine ev_set (d := .str "abcdefghijklmnopqrstuvwxyz") rfl ?_
  refine ev_set (d := .int size0) ?_ ?_
  · refine ev_bin (ev_bin (ev_bin (ev_bin (ev_bin (ev_bin (ev_bin rfl rfl (pick_get (k := 1) (by omega))) rfl (dMul_int (cmulR (by decide) (by decide)))) (ev_bin rfl rfl (pick_get (k := 2) (by omega))) (dAdd_int _ _)) rfl (dMul_int (cmulR (by decide) (by decide)))) (ev_bin rfl rfl (pick_get (k := 3) (by omega))) (dAdd_int _ _)) rfl (dMul_int (cmulR (by decide) (by decide)))) (ev_bin rfl rfl (pick_get (k := 4) (by omega))) ?_
    rw [dAdd_int, hsz]
  refine ev_set (d := .str "") rfl ?_
  refine ev_for (ds := rangeD 0 n.toNat) ?_ h1 ?_
  · refine ev_rng (ev_cons (ev_bin rfl (ev_bin (ev_bin rfl rfl (pick_get (k := 0) (by omega))) rfl (dMod_int (by decide))) (dAdd_int _ _)) rfl) ?_
    rw [rng1_ok (by omega) (by omega), hn]
  refine ev_set (d := .str "rows view where keep named pairs both less count seal and or not mine empty loud yes has") rfl ?_
  refine ev_set (d := .list ((cands cs).map .str)) ?_ ?_
  · refine ev_bin (a := .list [.str (mkS cs)]) (b := .list (((List.range 26).map fun j => mkS (cs.take 6 ++ [97 + j] ++ [122])).map .str)) (ev_lst rfl (show 1 ≤ sizeLine by decide)) ?_ ?_
    · refine ev_lc (ds := ((List.range 26).map (97 + ·)).map fun c => .str ⟨#[c]⟩) ?_ (es := ((List.range 26).map fun j => mkS (cs.take 6 ++ [97 + j] ++ [122])).map .str) ?_ ?_
      · refine ev_it (d := .str "abcdefghijklmnopqrstuvwxyz") rfl ?_
        show some (List.map _ (Str.ofString "abcdefghijklmnopqrstuvwxyz").cps.toList) = _
        rw [codesL]
      · refine (lc_map (f := fun d => match d with | .str x => .str (mkS (cs.take 6 ++ x.cps.toList ++ [122])) | d => d) fun d hd => ?_).trans ?_
        · obtain ⟨c, hc, rfl⟩ := List.mem_map.mp hd
          refine ⟨_, rfl, rfl, ?_⟩
          unfold le2_law_name
          show mBin dAdd (mBin dAdd _ _) _ _ = some (.str (mkS (cs.take 6 ++ [c] ++ [122])))
          have l6 : (cs.take 6).length ≤ 6 := by rw [List.length_take]; omega
          refine ev_bin (a := .str (mkS (cs.take 6 ++ [c]))) (b := .str (mkS [122])) (ev_bin (a := .str (mkS (cs.take 6))) (b := .str (mkS [c])) (ev_sl (lo := none) (hi := some 6) rfl rfl (ev_part rfl) ?_) rfl (dAdd_str (by simp; omega))) rfl (dAdd_str (by simp; omega))
          show (if (mkS cs).length ≤ sizeLine then some (PyData.str (cutS (mkS cs) none (some 6))) else none) = _
          rw [if_pos (by rw [mkS_len]; exact line_big (by omega)), show (some (6 : Int)) = some ((6 : Nat) : Int) from rfl, cutS_mk]
        · rw [List.map_map, List.map_map, List.map_map]
          rfl
      · rw [List.length_map, List.length_map, List.length_range]
        decide
    · rw [dAdd_list (by rw [List.length_map, List.length_map, List.length_range]; show 1 + 26 ≤ 100000; decide)]
      rfl
  refine ev_ret ?_
  refine ev_bin (a := .list ((w :: r).map .str)) (b := .int 0) ?_ rfl (dIx_zero _ _)
  refine ev_lc (ds := (cands cs).map .str) rfl (es := (w :: r).map .str) ?_ ?_
  · refine (lc_filter (f := id) (p := fun d => match d with | .str x => decide (x ∉ taken) && decide (x ∉ barL) | _ => false) fun d hd => ?_).trans ?_
    · obtain ⟨x, hx, rfl⟩ := List.mem_map.mp hd
      refine ⟨_, rfl, ?_, ?_⟩
      · unfold lt1_law_name
        have t1 : (mTst (mBin (dIn true) (mVar 9) (mVar 1))) ([some (.list (ps.map .int)), some (.list (taken.map .str)), some (.str "abcdefghijklmnopqrstuvwxyz"), some (.int size), some (.str (mkS cs)), z, some (.str "rows view where keep named pairs both less count seal and or not mine empty loud yes has"), some (.list ((cands cs).map .str)), none, some (.str x)]) = some (!decide (x ∈ taken)) := by
          refine ev_tst (ev_bin rfl rfl ?_)
          rw [dIn_strs (hsh x hx) ht, Bool.true_xor]
        have t2 : (mTst (mBin (dIn true) (mVar 9) (mSplit (mVar 6) (mC (.str " "))))) ([some (.list (ps.map .int)), some (.list (taken.map .str)), some (.str "abcdefghijklmnopqrstuvwxyz"), some (.int size), some (.str (mkS cs)), z, some (.str "rows view where keep named pairs both less count seal and or not mine empty loud yes has"), some (.list ((cands cs).map .str)), none, some (.str x)]) = some (!decide (x ∈ barL)) := by
          refine ev_tst (ev_bin (b := .list (barL.map .str)) rfl ?_ ?_)
          · show (if ((Str.ofString " ").length == 0) = false ∧ (Str.ofString "rows view where keep named pairs both less count seal and or not mine empty loud yes has").length + 2 ≤ sizeLine then some (PyData.list ((Txt.split "rows view where keep named pairs both less count seal and or not mine empty loud yes has" " ").map .str)) else none) = _
            rw [if_pos (by decide +kernel), splitB]
          · rw [dIn_strs (hsh x hx) barShape, Bool.true_xor]
        show mAndT _ _ _ = some (decide (x ∉ taken) && decide (x ∉ barL))
        by_cases hxt : x ∈ taken
        · have e1 : decide (x ∉ taken) = false := decide_eq_false fun q => q hxt
          rw [e1, Bool.false_and]
          refine ev_andF (t1.trans ?_)
          rw [decide_eq_true hxt]
          rfl
        · have e1 : decide (x ∉ taken) = true := decide_eq_true hxt
          rw [e1, Bool.true_and]
          refine ev_andT (t1.trans ?_) (t2.trans ?_)
          · rw [decide_eq_false hxt]
            rfl
          · rw [decide_not]
      · unfold le1_law_name
        rfl
    · rw [List.map_id, List.filter_map]
      show some (((cands cs).filter fun w => decide (w ∉ taken) && decide (w ∉ barL)).map PyData.str) = _
      rw [hw]
  · have : (w :: r).length ≤ (cands cs).length := by
      rw [← hw]
      exact List.length_filter_le _ _
    rw [List.length_map]
    refine Nat.le_trans this (line_big ?_)
    unfold cands
    rw [List.length_cons, List.length_map, List.length_range]
    decide
theorem ev_orV {ma mb : En → Option PyData} {env : En} {a b : Bool} (h : ma env = some (.bool a)) (h2 : mb env = some (.bool b)) : mOr ma mb env = some (.bool (a || b)) := by
  unfold mOr
  rw [h, Option.bind_some]
  show (some a).bind _ = _
  rw [Option.bind_some]
  cases a with
  | true => rfl
  | false => exact h2
theorem ev_andV {ma mb : En → Option PyData} {env : En} {a b : Bool} (h : ma env = some (.bool a)) (h2 : mb env = some (.bool b)) : mAnd ma mb env = some (.bool (a && b)) := by
  unfold mAnd
  rw [h, Option.bind_some]
  show (some a).bind _ = _
  rw [Option.bind_some]
  cases a with
  | true => exact h2
  | false => rfl
theorem bInt_bool (b : Bool) : bInt [.bool b] = some (.int (b2 b)) := by cases b <;> rfl
theorem slice_ints {ps : List Int} {a b : Nat} {lo hi : Int} (h1 : lo = (a : Int)) (h2 : hi = (b : Int)) : dSl (.list (ps.map .int)) (some lo) (some hi) = some (.list (((ps.drop a).take (b - a)).map .int)) := by
  subst h1 h2
  show some (PyData.list (cutD _ _ _)) = _
  rw [cutD_mid, List.map_take, List.map_drop]
theorem slice_ints_from {ps : List Int} {a : Nat} {lo : Int} (h1 : lo = (a : Int)) : dSl (.list (ps.map .int)) (some lo) none = some (.list ((ps.drop a).map .int)) := by
  subst h1
  show some (PyData.list (cutD _ _ _)) = _
  rw [cutD_drop, List.map_drop]
def ColsOk (cs : List Col) : Prop := (∀ c ∈ cs, c.Ok ∧ NmOk c.name) ∧ (cs.map Col.name).Nodup
theorem cols_names {cs : List Col} {env : En} {vs : List Nat} {lb : En → Option PyData} {i j : Nat} (hm : mVar i env = some (.list (cs.map Col.enc))) (hz : cs.length ≤ 1000) (he : ∀ c : Col, lb ((wipeD env vs).set j (some c.enc)) = some (.str c.name)) : mLc vs (mIt (mVar i)) (gB j) mYes lb env = some (.list ((cs.map Col.name).map .str)) := by
  refine ev_lc (ds := cs.map Col.enc) (ev_it hm rfl) (es := (cs.map Col.name).map .str) ?_ (by rw [List.length_map, List.length_map]; exact line_big (by omega))
  refine (lc_map (f := fun d => match d with | .tuple (x :: _) => x | d => d) fun d hd => ?_).trans ?_
  · obtain ⟨c, hc, rfl⟩ := List.mem_map.mp hd
    exact ⟨_, gB_ap _ _ _, rfl, he c⟩
  · rw [List.map_map, List.map_map]
    rfl
theorem columns_step {ps : List Int} {many : Nat} {top : Int} {cs : List Col} {z6 z7 z8 : Option PyData} {k : Nat} (hk : k < many) (hp : 7 * many ≤ ps.length) (hd : ∀ x ∈ ps, Dr x) (ht : top ≤ 100000) (hc : ColsOk cs) (hl : cs.length = k) (hk4 : many ≤ 8) (hr : prodM cs ≤ top) :
    ∃ (c : Col) (y6 y7 y8 : Option PyData), lb1_law_columns [some (.list (ps.map .int)), some (.int many), some (.int top), some (.list (cs.map Col.enc)), some (.int (prodM cs)), some (.int (k : Int)), z6, z7, z8, none] = some (.nx [some (.list (ps.map .int)), some (.int many), some (.int top), some (.list ((cs ++ [c]).map Col.enc)), some (.int (prodM (cs ++ [c]))), some (.int (k : Int)), y6, y7, y8, none]) ∧ ColsOk (cs ++ [c]) ∧ prodM (cs ++ [c]) ≤ top := by
  have hpos := prodM_pos (cs := cs) fun c h => (hc.1 c h).1
  generalize hs : (ps.drop (7 * k)).take (7 * k + 7 - 7 * k) = so
  have sl : so.length = 7 := by
    rw [← hs, List.length_take, List.length_drop]
    omega
  have s6 : Dr (so.getD 6 0) := by
    rw [List.getD_eq_getElem?_getD, List.getElem?_eq_getElem (by omega : 6 < so.length)]
    refine hd _ (List.mem_of_mem_drop (i := 7 * k) (List.mem_of_mem_take (i := 7 * k + 7 - 7 * k) ?_))
    rw [hs]
    exact List.getElem_mem _
  have hq : 1 ≤ top / prodM cs := by
    have := (Int.le_ediv_iff_mul_le (show 0 < prodM cs by omega)).mpr (show 1 * prodM cs ≤ top by omega)
    exact this
  have hql : top / prodM cs ≤ 100000 := by
    have := Int.ediv_le_self top (show 0 ≤ prodM cs by omega) |> fun h => h
    by_cases h0 : 0 ≤ top
    · exact Int.le_trans (Int.ediv_le_self _ h0) ht
    · omega
  generalize hm : (if top / prodM cs < 10 then top / prodM cs else 10) = mn
  have hmn : 1 ≤ mn ∧ mn ≤ 10 ∧ mn ≤ top / prodM cs := by
    rw [← hm]
    split <;> omega
  generalize hv : 1 + so.getD 5 0 % mn = v
  have hv1 : 1 ≤ v ∧ v ≤ mn := by
    have h1 := Int.emod_nonneg (so.getD 5 0) (show mn ≠ 0 by omega)
    have h2 := Int.emod_lt_of_pos (so.getD 5 0) (show 0 < mn by omega)
    omega
  generalize ho : ((v == 10) || (decide (1 < v) && (so.getD 6 0 % 3 == 0))) = o
  have hov : (o = true → 2 ≤ v) ∧ (v = 10 → o = true) := by
    rw [← ho]
    constructor
    · intro h
      rcases Bool.or_eq_true_iff.mp h with ten | h
      · have h := ten
        have : v = 10 := by simpa using h
        omega
      · have := (Bool.and_eq_true_iff.mp h).1
        have : 1 < v := by simpa using this
        omega
    · intro h
      rw [h]
      rfl
  have hb : v - b2 o + b2 o = v := by omega
  have hsz : 1 ≤ v - b2 o ∧ v - b2 o ≤ 9 := by
    cases o with
    | true =>
      have := hov.1 rfl
      show 1 ≤ v - 1 ∧ v - 1 ≤ 9
      omega
    | false =>
      have : v ≠ 10 := fun h => Bool.noConfusion (hov.2 h)
      show 1 ≤ v - 0 ∧ v - 0 ≤ 9
      omega
  obtain ⟨w, hw1, hw2, hw3⟩ := name_eq (ps := so) (taken := cs.map Col.name) (by omega) (fun t h => by
    obtain ⟨c, hcm, rfl⟩ := List.mem_map.mp h
    exact (hc.1 c hcm).2.shaped) (by rw [List.length_map]; omega)
  have hcm : Col.many ⟨w, v - b2 o, o⟩ = v := hb
  have hpr : prodM (cs ++ [⟨w, v - b2 o, o⟩]) = prodM cs * v := by
    rw [prodM_app]
    show prodM cs * (Col.many ⟨w, v - b2 o, o⟩ * 1) = _
    rw [hcm, Int.mul_one]
  have hfit : prodM cs * v ≤ top := by
    have h1 : prodM cs * v ≤ prodM cs * (top / prodM cs) := Int.mul_le_mul_of_nonneg_left (by omega) (by omega)
    have h2 : prodM cs * (top / prodM cs) ≤ top := Int.mul_ediv_self_le (by omega)
    omega
  refine ⟨⟨w, v - b2 o, o⟩, some (.list (so.map .int)), some (.int v), some (.bool o), ?_, ⟨fun c h => ?_, ?_⟩, by rw [hpr]; exact hfit⟩
  · unfold lb1_law_columns
    refine ev_set (d := .list (so.map .int)) (ev_sl rfl (ev_part (i := 7 * (k : Int)) (ev_bin rfl rfl (dMul_int (cmulL (by decide) (by decide))))) (ev_part (i := 7 * (k : Int) + 7) (ev_bin (ev_bin rfl rfl (dMul_int (cmulL (by decide) (by decide)))) rfl (dAdd_int _ _))) ?_) ?_
    · rw [slice_ints (a := 7 * k) (b := 7 * k + 7) (by omega) (by omega), hs]
    refine ev_set (d := .int v) (ev_bin (a := .int 1) (b := .int (so.getD 5 0 % mn)) rfl (ev_bin (b := .int mn) (ev_bin rfl rfl (pick_get (k := 5) (by omega))) (ev_cb (ev_cons rfl (ev_cons (ev_bin rfl rfl (dDiv_int (cdivS (by omega) (by omega)))) rfl)) ?_) (dMod_int (by omega))) ?_) ?_
    · show some (PyData.int (if top / prodM cs < 10 then top / prodM cs else 10)) = _
      rw [hm]
    · rw [dAdd_int, hv]
    refine ev_set (d := .bool o) ?_ ?_
    · rw [← ho]
      refine ev_orV (ev_bin rfl rfl (dEq_int _ _)) (ev_andV (ev_bin rfl rfl (dGt_int _ _)) (ev_bin (ev_bin (ev_bin rfl rfl (pick_get (k := 6) (by omega))) rfl (dMod_int (by decide))) rfl (dEq_int _ _)))
    refine ev_seq (ev_app (ds := cs.map Col.enc) (d := Col.enc ⟨w, v - b2 o, o⟩) rfl ?_ (line_lt (by rw [List.length_map]; omega))) ?_
    · refine ev_tup (ev_cons (d := .str w) (ev_cb (ev_cons (d := .list (so.map .int)) rfl (ev_cons (d := .list ((cs.map Col.name).map .str)) (cols_names rfl (by omega) fun c => ?_) rfl)) hw1) (ev_cons (ev_bin (b := .int (b2 o)) rfl (ev_cb (ev_cons rfl rfl) (bInt_bool o)) (dSub_int _ _)) (ev_cons rfl rfl))) (show 3 ≤ sizeLine by decide)
      unfold le1_law_columns
      rfl
    · refine ev_set1 (d := .int (prodM cs * v)) (ev_bin rfl rfl (dMul_int (cmulR (by omega) (by omega)))) ?_
      rw [hpr, List.map_append]
      rfl
  · obtain h | h := List.mem_append.mp h
    · exact hc.1 c h
    · rw [List.mem_singleton.mp h]
      exact ⟨hsz, hw2⟩
  · refine List.map_append ▸ List.nodup_append.mpr ?_
    refine ⟨hc.2, by simp, fun a ha b hb => ?_⟩
    have : b = w := by simpa using hb
    subst this
    exact fun e => hw3 (by rw [← e]; exact ha)
theorem columns_eq {ps : List Int} {many : Nat} {top : Int} (hm : many ≤ 8) (hp : 7 * many ≤ ps.length) (hd : ∀ x ∈ ps, Dr x) (ht0 : 1 ≤ top) (ht : top ≤ 100000) :
    ∃ cs : List Col, fm_law_columns [.list (ps.map .int), .int many, .int top] = some (.tuple [.tuple (cs.map Col.enc), .int (prodM cs)]) ∧ cs.length = many ∧ ColsOk cs ∧ prodM cs ≤ top := by
  have loop : ∃ e', loopD (gB 5) lb1_law_columns (rangeD 0 many) [some (.list (ps.map .int)), some (.int many), some (.int top), some (.list []), some (.int 1), none, none, none, none, none] = some (.nx e') ∧
      ∃ (cs : List Col) (z5 z6 z7 z8 : Option PyData), e' = [some (.list (ps.map .int)), some (.int many), some (.int top), some (.list (cs.map Col.enc)), some (.int (prodM cs)), z5, z6, z7, z8, none] ∧ cs.length = many ∧ ColsOk cs ∧ prodM cs ≤ top := by
    refine loop_range (fun i e => ∃ (cs : List Col) (z5 z6 z7 z8 : Option PyData), e = [some (.list (ps.map .int)), some (.int many), some (.int top), some (.list (cs.map Col.enc)), some (.int (prodM cs)), z5, z6, z7, z8, none] ∧ cs.length = i ∧ ColsOk cs ∧ prodM cs ≤ top)
      ⟨[], none, none, none, none, rfl, rfl, ⟨(fun _ h => absurd h (by simp)), by simp⟩, ht0⟩ fun i e hi he => ?_
    obtain ⟨cs, z5, z6, z7, z8, rfl, h1, h2, h3⟩ := he
    obtain ⟨c, y6, y7, y8, g1, g2, g3⟩ := columns_step (z6 := z6) (z7 := z7) (z8 := z8) hi hp hd ht h2 h1 hm h3
    refine ⟨_, _, rfl, .inl ?_, cs ++ [c], some (.int (i : Int)), y6, y7, y8, rfl, by rw [List.length_append, h1]; rfl, g2, g3⟩
    rw [Int.zero_add]
    exact g1
  obtain ⟨e', h1, cs, z5, z6, z7, z8, rfl, h2, h3, h4⟩ := loop
  refine ⟨cs, ?_, h2, h3, h4⟩
  unfold fm_law_columns mb_law_columns
  refine ev_run (d := .tuple [.tuple (cs.map Col.enc), .int (prodM cs)]) ?_ rfl
  refine ev_set (d := .list []) (ev_lst rfl (Nat.zero_le _)) ?_
  refine ev_set (d := .int 1) rfl ?_
  refine ev_for (ds := rangeD 0 many) (ev_rng rfl ?_) h1 ?_
  · rw [rng1_ok (by omega) (by omega)]
    congr 2
  · exact ev_ret (ev_tup (ev_cons (ev_cb (ev_cons rfl rfl) rfl) (ev_cons rfl rfl)) (show 2 ≤ sizeLine by decide))
structure Tab.Gd (t : Tab) : Prop where
  cols : ColsOk t.cols
  name : NmOk t.name
  key : t.key ≤ t.cols.length
  shut : ∀ c ∈ t.cols.take t.key, c.op = false
  some : 1 ≤ t.cols.length
  few : t.cols.length ≤ 4
theorem any_ops {cs : List Col} {env : En} {vs : List Nat} {lb : En → Option PyData} {i j : Nat} (hm : mVar i env = some (.tuple (cs.map Col.enc))) (hz : cs.length ≤ 1000) (he : ∀ c : Col, lb ((wipeD env vs).set j (some c.enc)) = some (.bool c.op)) : mLc vs (mIt (mVar i)) (gB j) mYes lb env = some (.list ((cs.map Col.op).map .bool)) := by
  refine ev_lc (ds := cs.map Col.enc) (ev_it hm rfl) (es := (cs.map Col.op).map .bool) ?_ (by rw [List.length_map, List.length_map]; exact line_big (by omega))
  refine (lc_map (f := fun d => match d with | .tuple [_, _, x] => x | d => d) fun d hd => ?_).trans ?_
  · obtain ⟨c, hc, rfl⟩ := List.mem_map.mp hd
    exact ⟨_, gB_ap _ _ _, rfl, he c⟩
  · rw [List.map_map, List.map_map]
    rfl
theorem ev_index {ma mb : En → Option PyData} {env : En} {ds : List PyData} {b : PyData} {j : Nat} (h1 : ma env = some (.list ds)) (h2 : mb env = some b) (h3 : SeqAt.shaped (.list ds) = true) (h4 : SeqAt.shaped b = true) (h5 : findD b ds 0 = some j) : mIndex ma mb env = some (.int (j : Nat)) := by
  unfold mIndex
  rw [h1, Option.bind_some, h2, Option.bind_some]
  show (if SeqAt.shaped (.list ds) = true ∧ SeqAt.shaped b = true then (findD b ds 0).map fun j => PyData.int (j : Nat) else none) = _
  rw [if_pos ⟨h3, h4⟩, h5]
  rfl
theorem shaped_bools (bs : List Bool) : SeqAt.shaped (.list (bs.map .bool)) = true := by
  unfold SeqAt.shaped
  rw [Bool.and_eq_true]
  have h1 : PyData.canLayAll0 (bs.map .bool) = true := by
    induction bs with
    | nil => simp [PyData.canLayAll0]
    | cons w ws ih =>
      rw [List.map_cons, PyData.canLayAll0, ih]
      simp [PyData.canLay0]
  have h2 : PyData.depthAll (bs.map .bool) = 0 := by
    clear h1
    induction bs with
    | nil => simp [PyData.depthAll]
    | cons w ws ih =>
      rw [List.map_cons, PyData.depthAll, ih]
      simp [PyData.depth]
  refine ⟨by rw [PyData.canLay0]; exact h1, ?_⟩
  rw [PyData.depth, h2]
  rfl
theorem find_op : ∀ (bs : List Bool) (i : Nat), bs.any id = true → findD (.bool true) (bs.map .bool) i = some (i + bs.findIdx id)
  | [], _, h => by cases h
  | b :: bs, i, h => by
    cases b with
    | true =>
      rw [List.map_cons, findD, if_pos (by rw [PyData.eqv]; rfl), List.findIdx_cons]
      rfl
    | false =>
      rw [List.map_cons, findD, if_neg (by rw [PyData.eqv]; decide), find_op bs (i + 1) h, List.findIdx_cons]
      show some (i + 1 + bs.findIdx id) = some (i + (bs.findIdx id + 1))
      congr 1
      omega
theorem find_none {bs : List Bool} (h : bs.any id = false) : bs.findIdx id = bs.length := by
  apply List.findIdx_eq_length.mpr
  intro b hb
  cases hb2 : b with
  | false => rfl
  | true =>
    subst hb2
    have : bs.any id = true := List.any_eq_true.mpr ⟨true, hb, rfl⟩
    rw [h] at this
    cases this
def alikeCols : ∀ (cs ds : List Col), PySem.W.alikeAll (cs.map Col.enc) (ds.map Col.enc) = true
  | [], _ => by rw [List.map_nil, PySem.W.alikeAll]
  | _ :: _, [] => by rw [List.map_cons, List.map_nil, PySem.W.alikeAll]
  | c :: cs, d :: ds => by
    rw [List.map_cons, List.map_cons, PySem.W.alikeAll, alikeCols cs ds]
    simp [Col.enc, PySem.W.alike, PySem.W.alikeAll]
theorem alikeTab (t u : Tab) : PySem.W.alike t.enc u.enc = true := by
  unfold Tab.enc
  rw [PySem.W.alike, PySem.W.alikeAll, PySem.W.alikeAll, PySem.W.alikeAll, PySem.W.alike, PySem.W.alike, PySem.W.alike, alikeCols, PySem.W.alikeAll] <;> rfl
theorem depthCols : ∀ (cs : List Col), PyData.depthAll (cs.map Col.enc) ≤ 1
  | [] => Nat.zero_le 1
  | c :: cs => by
    have := depthCols cs
    have u : PyData.depthAll ((c :: cs).map Col.enc) = max (Col.enc c).depth (PyData.depthAll (cs.map Col.enc)) := by rw [List.map_cons]; rfl
    have h : (Col.enc c).depth = 1 := by simp [Col.enc, PyData.depth, PyData.depthAll]
    omega
theorem depthTab (t : Tab) : t.enc.depth ≤ 3 := by
  have := depthCols t.cols
  simp only [Tab.enc, PyData.depth, PyData.depthAll]
  omega
def sumP : List Tab → Int
  | [] => 0
  | t :: ts => prodM t.cols + sumP ts
theorem sumP_app : ∀ (as bs : List Tab), sumP (as ++ bs) = sumP as + sumP bs
  | [], bs => by simp [sumP]
  | a :: as, bs => by
    show prodM a.cols + sumP (as ++ bs) = prodM a.cols + sumP as + sumP bs
    rw [sumP_app as bs]
    omega
def tabLe (a b : Tab) : Bool := PySem.W.dataLe false id a.enc b.enc
theorem sorted_tabs (ts : List Tab) : bSorted [.list (ts.map Tab.enc)] = some (.list ((ts.mergeSort tabLe).map Tab.enc)) := by
  have hA : PySem.W.AllAlike (ts.map Tab.enc) := fun d hd d' hd' => by
    obtain ⟨t, _, rfl⟩ := List.mem_map.mp hd
    obtain ⟨u, _, rfl⟩ := List.mem_map.mp hd'
    exact alikeTab t u
  have hB : srtB (ts.map Tab.enc) = true := by
    unfold srtB
    rw [Bool.or_eq_true]
    refine .inl (List.all_eq_true.mpr fun d hd => ?_)
    obtain ⟨t, _, rfl⟩ := List.mem_map.mp hd
    rfl
  have hC : depthOk (ts.map Tab.enc) = true := by
    unfold depthOk
    refine List.all_eq_true.mpr fun d hd => ?_
    obtain ⟨t, _, rfl⟩ := List.mem_map.mp hd
    have := depthTab t
    refine decide_eq_true ?_
    omega
  have hS : (ts.map Tab.enc).mergeSort (PySem.W.dataLe false id) = (ts.mergeSort tabLe).map Tab.enc := (PySem.W.sort_maps (r := tabLe) (s := PySem.W.dataLe false id) Tab.enc (l := ts) (fun _ _ _ _ => rfl)).symm
  show (if PySem.W.AllAlike (ts.map Tab.enc) ∧ srtB (ts.map Tab.enc) = true ∧ depthOk (ts.map Tab.enc) = true then some (PyData.list ((ts.map Tab.enc).mergeSort (PySem.W.dataLe false id))) else none) = _
  rw [if_pos ⟨hA, hB, hC⟩, hS]
theorem tabs_names {ts : List Tab} {env : En} {vs : List Nat} {lb : En → Option PyData} {i j : Nat} (hm : mVar i env = some (.list (ts.map Tab.enc))) (hz : ts.length ≤ 1000) (he : ∀ t : Tab, lb ((wipeD env vs).set j (some t.enc)) = some (.str t.name)) : mLc vs (mIt (mVar i)) (gB j) mYes lb env = some (.list ((ts.map Tab.name).map .str)) := by
  refine ev_lc (ds := ts.map Tab.enc) (ev_it hm rfl) (es := (ts.map Tab.name).map .str) ?_ (by rw [List.length_map, List.length_map]; exact line_big (by omega))
  refine (lc_map (f := fun d => match d with | .tuple (x :: _) => x | d => d) fun d hd => ?_).trans ?_
  · obtain ⟨c, hc, rfl⟩ := List.mem_map.mp hd
    exact ⟨_, gB_ap _ _ _, rfl, he c⟩
  · rw [List.map_map, List.map_map]
    rfl
structure TabsOk (ts : List Tab) (top : Int) : Prop where
  each : ∀ t ∈ ts, t.Gd
  apart : (ts.map Tab.name).Nodup
  room : sumP ts ≤ top
theorem ground_step {ps : List Int} {top : Int} {ts : List Tab} {z5 z6 z7 z8 z9 : Option PyData} {k : Nat} (hk : k < 4) (hp : 145 ≤ ps.length) (hd : ∀ x ∈ ps, Dr x) (ht : top ≤ 100000) (hg : TabsOk ts top) (hl : ts.length ≤ k) (hk0 : k = 0 → ts = [] ∧ 1 ≤ top) (hk1 : 1 ≤ k → 1 ≤ ts.length) (hs0 : 0 ≤ sumP ts) :
    ∃ (us : List Tab) (y5 y6 y7 y8 y9 : Option PyData), lb1_law_ground [some (.list (ps.map .int)), some (.int top), some (.list (ts.map Tab.enc)), some (.int (top - sumP ts)), some (.int (k : Int)), z5, z6, z7, z8, z9, none] = some (.nx [some (.list (ps.map .int)), some (.int top), some (.list (us.map Tab.enc)), some (.int (top - sumP us)), some (.int (k : Int)), y5, y6, y7, y8, y9, none]) ∧ TabsOk us top ∧ us.length ≤ k + 1 ∧ 1 ≤ us.length ∧ 0 ≤ sumP us := by
  generalize hs : (ps.drop (1 + 36 * k)).take (37 + 36 * k - (1 + 36 * k)) = so
  have sl : so.length = 36 := by
    rw [← hs, List.length_take, List.length_drop]
    omega
  have sd : ∀ x ∈ so, Dr x := fun x hx => by
    rw [← hs] at hx
    exact hd x (List.mem_of_mem_drop (List.mem_of_mem_take hx))
  have e5 : (mSl (mVar 0) (mPart (mBin dAdd (mC (.int 1)) (mBin dMul (mC (.int 36)) (mVar 4)))) (mPart (mBin dAdd (mC (.int 37)) (mBin dMul (mC (.int 36)) (mVar 4))))) [some (.list (ps.map .int)), some (.int top), some (.list (ts.map Tab.enc)), some (.int (top - sumP ts)), some (.int (k : Int)), z5, z6, z7, z8, z9, none] = some (.list (so.map .int)) := by
    refine ev_sl rfl (ev_part (i := 1 + 36 * (k : Int)) (ev_bin rfl (ev_bin rfl rfl (dMul_int (cmulL (by decide) (by decide)))) (dAdd_int _ _))) (ev_part (i := 37 + 36 * (k : Int)) (ev_bin rfl (ev_bin rfl rfl (dMul_int (cmulL (by decide) (by decide)))) (dAdd_int _ _))) ?_
    rw [slice_ints (a := 1 + 36 * k) (b := 37 + 36 * k) (by omega) (by omega), hs]
  by_cases h0 : 0 < top - sumP ts
  · generalize hm : 1 + so.getD 5 0 % 4 = mi
    have hmi : 1 ≤ mi ∧ mi ≤ 4 := by
      have h1 := Int.emod_nonneg (so.getD 5 0) (show (4 : Int) ≠ 0 by decide)
      have h2 := Int.emod_lt_of_pos (so.getD 5 0) (show (0 : Int) < 4 by decide)
      omega
    obtain ⟨cs, c1, c2, c3, c4⟩ := columns_eq (ps := so.drop 7) (many := mi.toNat) (top := top - sumP ts) (by omega) (by rw [List.length_drop]; omega) (fun x hx => sd x (List.mem_of_mem_drop hx)) (by omega) (by omega)
    rw [show ((mi.toNat : Nat) : Int) = mi by omega] at c1
    have hpos := prodM_pos (cs := cs) fun c h => (c3.1 c h).1
    generalize hkz : (cs.map Col.op).findIdx id = kz
    have hkl : kz ≤ cs.length := by
      have : (cs.map Col.op).findIdx id ≤ (cs.map Col.op).length := List.findIdx_le_length
      rw [List.length_map, hkz] at this
      exact this
    generalize hkv : so.getD 6 0 % ((kz : Int) + 1) = kv
    have hk0' : 0 ≤ kv ∧ kv ≤ kz := by
      have h1 := Int.emod_nonneg (so.getD 6 0) (show (kz : Int) + 1 ≠ 0 by omega)
      have h2 := Int.emod_lt_of_pos (so.getD 6 0) (show 0 < (kz : Int) + 1 by omega)
      omega
    obtain ⟨w, hw1, hw2, hw3⟩ := name_eq (ps := so) (taken := ts.map Tab.name) (by omega) (fun t h => by
      obtain ⟨c, hcm, rfl⟩ := List.mem_map.mp h
      exact (hg.each c hcm).name.shaped) (by rw [List.length_map]; omega)
    have et : Tab.enc ⟨w, kv.toNat, cs⟩ = .tuple [.str w, .int kv, .tuple (cs.map Col.enc)] := by
      show PyData.tuple [.str w, .int ((kv.toNat : Nat) : Int), .tuple (cs.map Col.enc)] = _
      rw [show ((kv.toNat : Nat) : Int) = kv by omega]
    have gd : Tab.Gd ⟨w, kv.toNat, cs⟩ := by
      refine ⟨c3, hw2, by show kv.toNat ≤ cs.length; omega, fun c hc => ?_, by show 1 ≤ cs.length; omega, by show cs.length ≤ 4; omega⟩
      obtain ⟨i, hi, hci⟩ := List.getElem_of_mem hc
      have hi2 : i < kz := by
        rw [List.length_take] at hi
        have : i < kv.toNat := Nat.lt_of_lt_of_le hi (Nat.min_le_left _ _)
        omega
      rw [List.getElem_take] at hci
      have hnot := List.not_of_lt_findIdx (xs := cs.map Col.op) (p := id) (i := i) (by rw [hkz]; exact hi2)
      rw [List.getElem_map, hci] at hnot
      exact hnot
    refine ⟨ts ++ [⟨w, kv.toNat, cs⟩], some (.list (so.map .int)), some (.int (kz : Int)), some (.str w), some (.tuple (cs.map Col.enc)), some (.int (prodM cs)), ?_, ⟨fun t h => ?_, ?_, ?_⟩, by rw [List.length_append]; simp; omega, by rw [List.length_append]; simp, ?_⟩
    · unfold lb1_law_ground
      refine ev_set e5 ?_
      refine ev_if1T (ev_tst (ev_bin rfl rfl ?_)) ?_
      · rw [dGt_int, decide_eq_true h0]
      refine ev_bnd (d := .tuple [.tuple (cs.map Col.enc), .int (prodM cs)]) (ev_cb (ev_cons (d := .list ((so.drop 7).map .int)) (ev_sl rfl (ev_part rfl) rfl (slice_ints_from (a := 7) rfl)) (ev_cons (d := .int mi) (ev_bin rfl (ev_bin (ev_bin rfl rfl (pick_get (k := 5) (by omega))) rfl (dMod_int (by decide))) ?_) (ev_cons rfl rfl))) c1) rfl ?_
      · rw [dAdd_int, hm]
      refine ev_set (d := .int (kz : Int)) ?_ ?_
      · have ops : ∀ {lb : En → Option PyData} {env : En}, env = [some (.list (ps.map .int)), some (.int top), some (.list (ts.map Tab.enc)), some (.int (top - sumP ts)), some (.int (k : Int)), some (.list (so.map .int)), z6, z7, some (.tuple (cs.map Col.enc)), some (.int (prodM cs)), none] → lb = mBin dIx (mVar 10) (mC (.int 2)) → mLc [10] (mIt (mVar 8)) (gB 10) mYes lb env = some (.list ((cs.map Col.op).map .bool)) := fun he hb => by
          subst he hb
          exact any_ops rfl (by omega) fun c => rfl
        by_cases ha : (cs.map Col.op).any id = true
        · refine ev_iT (ev_tru (d := .bool true) (ev_cb (ev_cons (ops rfl rfl) rfl) ?_) rfl) ?_
          · show (boolsOf ((cs.map Col.op).map .bool)).map _ = _
            rw [boolsOf_map, Option.map_some, ha]
          · refine ev_index (ops rfl rfl) rfl (shaped_bools _) rfl ?_
            rw [find_op _ _ ha, Nat.zero_add, hkz]
        · have ha' : (cs.map Col.op).any id = false := Bool.eq_false_iff.mpr ha
          refine ev_iF (ev_tru (d := .bool false) (ev_cb (ev_cons (ops rfl rfl) rfl) ?_) rfl) (ev_cb (ev_cons rfl rfl) ?_)
          · show (boolsOf ((cs.map Col.op).map .bool)).map _ = _
            rw [boolsOf_map, Option.map_some, ha']
          · show some (PyData.int ((cs.map Col.enc).length : Nat)) = _
            rw [List.length_map, ← hkz, find_none ha', List.length_map]
      refine ev_set (d := .str w) (ev_cb (ev_cons (d := .list (so.map .int)) rfl (ev_cons (d := .list ((ts.map Tab.name).map .str)) (tabs_names rfl (by omega) fun t => ?_) rfl)) hw1) ?_
      · unfold le1_law_ground
        rfl
      refine ev_seq (ev_app (ds := ts.map Tab.enc) (d := Tab.enc ⟨w, kv.toNat, cs⟩) rfl ?_ (line_lt (by rw [List.length_map]; omega))) ?_
      · rw [et]
        refine ev_tup (ev_cons rfl (ev_cons (d := .int kv) (ev_bin (b := .int ((kz : Int) + 1)) (ev_bin rfl rfl (pick_get (k := 6) (by omega))) (ev_bin rfl rfl (dAdd_int _ _)) ?_) (ev_cons rfl rfl))) (show 3 ≤ sizeLine by decide)
        rw [dMod_int (by omega), hkv]
      · refine ev_set1 (d := .int (top - sumP ts - prodM cs)) (ev_bin rfl rfl (dSub_int _ _)) ?_
        rw [List.map_append, sumP_app]
        show some (Fl.nx [_, _, _, some (.int (top - sumP ts - prodM cs)), _, _, _, _, _, _, _]) = some (Fl.nx [_, _, _, some (.int (top - (sumP ts + (prodM cs + 0)))), _, _, _, _, _, _, _])
        rw [show top - sumP ts - prodM cs = top - (sumP ts + (prodM cs + 0)) by omega]
        rfl
    · obtain h | h := List.mem_append.mp h
      · exact hg.each t h
      · rw [List.mem_singleton.mp h]
        exact gd
    · refine List.map_append ▸ List.nodup_append.mpr ?_
      refine ⟨hg.apart, by simp, fun a ha b hb => ?_⟩
      have : b = w := by simpa using hb
      subst this
      exact fun e => hw3 (by rw [← e]; exact ha)
    · rw [sumP_app]
      show sumP ts + (prodM cs + 0) ≤ top
      omega
    · rw [sumP_app]
      show 0 ≤ sumP ts + (prodM cs + 0)
      omega
  · refine ⟨ts, some (.list (so.map .int)), z6, z7, z8, z9, ?_, hg, by omega, ?_, hs0⟩
    · unfold lb1_law_ground
      refine ev_set e5 ?_
      refine ev_if1F (ev_tst (ev_bin rfl rfl ?_)) rfl
      rw [dGt_int, decide_eq_false h0]
    · by_cases z : k = 0
      · obtain ⟨rfl, h1⟩ := hk0 z
        exact absurd (show (0 : Int) < top - 0 by omega) h0
      · exact hk1 (by omega)
theorem ground_eq {ps : List Int} {top : Int} (hp : 145 ≤ ps.length) (hd : ∀ x ∈ ps, Dr x) (ht0 : 1 ≤ top) (ht : top ≤ 100000) :
    ∃ ts : List Tab, fm_law_ground [.list (ps.map .int), .int top] = some (.tuple ((ts.mergeSort tabLe).map Tab.enc)) ∧ TabsOk ts top ∧ ts.length ≤ 4 ∧ 1 ≤ ts.length := by
  generalize hn : 1 + ps.getD 0 0 % 4 = n
  have hn1 : 1 ≤ n ∧ n ≤ 4 := by
    have h1 := Int.emod_nonneg (ps.getD 0 0) (show (4 : Int) ≠ 0 by decide)
    have h2 := Int.emod_lt_of_pos (ps.getD 0 0) (show (0 : Int) < 4 by decide)
    omega
  have loop : ∃ e', loopD (gB 4) lb1_law_ground (rangeD 0 n.toNat) [some (.list (ps.map .int)), some (.int top), some (.list []), some (.int top), none, none, none, none, none, none, none] = some (.nx e') ∧
      ∃ (ts : List Tab) (z4 z5 z6 z7 z8 z9 : Option PyData), e' = [some (.list (ps.map .int)), some (.int top), some (.list (ts.map Tab.enc)), some (.int (top - sumP ts)), z4, z5, z6, z7, z8, z9, none] ∧ TabsOk ts top ∧ ts.length ≤ n.toNat ∧ (n.toNat = 0 → ts = []) ∧ (1 ≤ n.toNat → 1 ≤ ts.length) ∧ 0 ≤ sumP ts := by
    refine loop_range (fun i e => ∃ (ts : List Tab) (z4 z5 z6 z7 z8 z9 : Option PyData), e = [some (.list (ps.map .int)), some (.int top), some (.list (ts.map Tab.enc)), some (.int (top - sumP ts)), z4, z5, z6, z7, z8, z9, none] ∧ TabsOk ts top ∧ ts.length ≤ i ∧ (i = 0 → ts = []) ∧ (1 ≤ i → 1 ≤ ts.length) ∧ 0 ≤ sumP ts)
      ⟨[], none, none, none, none, none, none, by simp [sumP], ⟨(fun _ h => absurd h (by simp)), by simp, by simp [sumP]; omega⟩, Nat.le_refl _, fun _ => rfl, fun h => absurd h (by decide), by simp [sumP]⟩ fun i e hi he => ?_
    obtain ⟨ts, z4, z5, z6, z7, z8, z9, rfl, h1, h2, h3, h4, h5⟩ := he
    obtain ⟨us, y5, y6, y7, y8, y9, g1, g2, g3, g4, g5⟩ := ground_step (z5 := z5) (z6 := z6) (z7 := z7) (z8 := z8) (z9 := z9) (k := i) (by omega) hp hd ht h1 h2 (fun z => ⟨h3 z, ht0⟩) h4 h5
    refine ⟨_, _, rfl, .inl ?_, us, some (.int (i : Int)), y5, y6, y7, y8, y9, rfl, g2, g3, (fun z => absurd z (by omega)), fun _ => g4, g5⟩
    rw [Int.zero_add]
    exact g1
  obtain ⟨e', h1, ts, z4, z5, z6, z7, z8, z9, rfl, h2, h3, _, h4, _⟩ := loop
  refine ⟨ts, ?_, h2, by omega, h4 (by omega)⟩
  unfold fm_law_ground mb_law_ground
  refine ev_run (d := .tuple ((ts.mergeSort tabLe).map Tab.enc)) ?_ rfl
  refine ev_set (d := .list []) (ev_lst rfl (Nat.zero_le _)) ?_
  refine ev_set (d := .int top) rfl ?_
  refine ev_for (ds := rangeD 0 n.toNat) ?_ h1 ?_
  · refine ev_rng (ev_cons (ev_bin rfl (ev_bin (ev_bin rfl rfl (pick_get (k := 0) (by omega))) rfl (dMod_int (by decide))) (dAdd_int _ _)) rfl) ?_
    rw [rng1_ok (by omega) (by omega), hn]
  · exact ev_ret (ev_cb (ev_cons (d := .list ((ts.mergeSort tabLe).map Tab.enc)) (ev_cb (ev_cons rfl rfl) (sorted_tabs ts)) rfl) rfl)
theorem ev_chain {f g : PyData → PyData → Option PyData} {ma mb mc : En → Option PyData} {env : En} {a b c : PyData} {p q : Bool} (h1 : ma env = some a) (h2 : mb env = some b) (h3 : mc env = some c) (h4 : f a b = some (.bool p)) (h5 : g b c = some (.bool q)) :
    mChain f g ma mb mc env = some (.bool (p && q)) := by
  unfold mChain
  rw [h1, h2, Option.bind_some, Option.bind_some, h4, Option.bind_some]
  cases p
  · rfl
  · show (mc env).bind _ = _
    rw [h3, Option.bind_some, h5, Bool.true_and]
def whole (d : PyData) : Bool := match d with
  | .int _ => true
  | _ => false
def within (d : PyData) (lo hi : Int) : Bool := match d with
  | .int i => decide (lo ≤ i) && decide (i ≤ hi)
  | _ => false
inductive Dm (N : Nat) : PyData → Prop
  | none : Dm N .none
  | bool (b : Bool) : Dm N (.bool b)
  | int (i : Int) : Dm N (.int i)
  | str {x : Str} (h : SeqAt.shaped (.str x) = true) (l : x.length ≤ 1000) : Dm N (.str x)
  | list {xs : List PyData} (l : xs.length ≤ N) (h : ∀ d ∈ xs, Dm N d) : Dm N (.list xs)
  | tuple {xs : List PyData} (l : xs.length ≤ N) (h : ∀ d ∈ xs, Dm N d) : Dm N (.tuple xs)
def letterL : List Nat := (Str.ofString "abcdefghijklmnopqrstuvwxyz").cps.toList
def nmS (x : Str) : Bool := (decide (1 ≤ x.length) && decide (x.length ≤ 8)) && (!decide (x ∈ barL) && x.cps.toList.all fun c => decide (c ∈ letterL))
def nm (d : PyData) : Bool := match d with
  | .str x => nmS x
  | _ => false
theorem bools_map (f : Nat → Bool) : ∀ l : List Nat, boolsOf (l.map fun c => .bool (f c)) = some (l.map f)
  | [] => rfl
  | c :: l => by
    show (boolsOf (l.map fun c => .bool (f c))).map (f c :: ·) = _
    rw [bools_map f l]
    rfl
theorem all_signs {env : En} {vs : List Nat} {i j : Nat} {x : Str} {le : En → Option PyData} (hv : mVar i env = some (.str x)) (hz : x.length ≤ 1000) (he : ∀ c : Nat, le ((wipeD env vs).set j (some (.str ⟨#[c]⟩))) = some (.bool (decide (c ∈ letterL)))) :
    mCB bAll (mCons (mLc vs (mIt (mVar i)) (gB j) mYes le) mNil) env = some (.bool (x.cps.toList.all fun c => decide (c ∈ letterL))) := by
  have len : x.cps.toList.length ≤ 1000 := by
    rw [Array.length_toList]
    exact hz
  have h : mLc vs (mIt (mVar i)) (gB j) mYes le env = some (.list (x.cps.toList.map fun c => .bool (decide (c ∈ letterL)))) := by
    refine ev_lc (ev_it hv rfl) (es := x.cps.toList.map fun c => .bool (decide (c ∈ letterL))) ?_ (line_big (by rw [List.length_map]; omega))
    rw [lc_map (f := fun d => match d with | .str y => .bool (y.cps.toList.all fun c => decide (c ∈ letterL)) | _ => .none)]
    · rw [List.map_map]
      refine congrArg some (List.map_congr_left fun c _ => ?_)
      show PyData.bool (decide (c ∈ letterL) && true) = _
      rw [Bool.and_true]
    · intro d hd
      obtain ⟨c, _, rfl⟩ := List.mem_map.mp hd
      refine ⟨_, rfl, rfl, ?_⟩
      rw [he c]
      show _ = some (PyData.bool (decide (c ∈ letterL) && true))
      rw [Bool.and_true]
  refine ev_cb (ev_cons h rfl) ?_
  show (boolsOf _).map _ = _
  rw [bools_map]
  show some (PyData.bool (((x.cps.toList.map fun c => decide (c ∈ letterL))).all id)) = _
  rw [List.all_map]
  rfl
theorem wordsD : c_WORDS = .tuple (barL.map .str) := rfl
theorem dIn_tup {neg : Bool} {w : Str} {ws : List Str} (h1 : SeqAt.shaped (.str w) = true) (h2 : ∀ x ∈ ws, SeqAt.shaped (.str x) = true) : dIn neg (.str w) (.tuple (ws.map .str)) = some (.bool (xor neg (decide (w ∈ ws)))) := dIn_strs h1 h2
theorem sign_in (c : Nat) : dIn false (.str ⟨#[c]⟩) (.str "abcdefghijklmnopqrstuvwxyz") = some (.bool (decide (c ∈ letterL))) := by
  show some (PyData.bool (xor false (decide (c ∈ letterL)))) = _
  rw [Bool.false_xor]
theorem is_name_eq {N : Nat} {d : PyData} (h : Dm N d) : fm_is_name [d] = some (.bool (nm d)) := by
  unfold fm_is_name mb_is_name
  have no : ∀ d, isiD "str" d = false → runB 2 mb_is_name [d] = some (.bool false) := fun d hd => by
    unfold mb_is_name
    refine ev_run (d := .bool false) (ev_ifR (ev_orT (ev_notT (b := false) (ev_tru (d := .bool (isiD "str" d)) rfl ?_))) (ev_ret rfl)) rfl
    rw [hd]
    rfl
  cases h with
  | @str x sh lx =>
    have len : bLen [.str x] = some (.int (x.length : Nat)) := if_pos (line_big (by omega))
    have t2 : mChain dLe dLe (mC (.int 1)) (mCB bLen (mCons (mVar 0) mNil)) (mC c_LONGEST_NAME) [some (.str x), none] = some (.bool (decide ((1 : Int) ≤ (x.length : Nat)) && decide (((x.length : Nat) : Int) ≤ 8))) := ev_chain rfl (ev_cb (ev_cons rfl rfl) len) rfl rfl rfl
    have e1 : decide ((1 : Int) ≤ (x.length : Nat)) = decide (1 ≤ x.length) := by
      apply decide_eq_decide.mpr
      omega
    have e2 : decide (((x.length : Nat) : Int) ≤ 8) = decide (x.length ≤ 8) := by
      apply decide_eq_decide.mpr
      omega
    rw [e1, e2] at t2
    have t1 : mTru (mIsi (isiD "str") (mVar 0)) [some (.str x), none] = some true := rfl
    cases hb : (decide (1 ≤ x.length) && decide (x.length ≤ 8)) with
    | false =>
      rw [hb] at t2
      refine ev_run (d := .bool false) (ev_ifR (ev_orF (ev_notT t1) (ev_notT (ev_tst t2))) (ev_ret rfl)) ?_
      rw [nm, nmS, hb]
      rfl
    | true =>
      rw [hb] at t2
      refine ev_run (d := .bool (nm (.str x))) (ev_ifF (env' := [some (.str x), none]) (ev_orF (ev_notT t1) (ev_notT (ev_tst t2))) rfl (ev_ret ?_)) rfl
      have w1 : mBin (dIn true) (mVar 0) (mC c_WORDS) [some (.str x), none] = some (.bool (!decide (x ∈ barL))) := ev_bin rfl rfl (by rw [wordsD, dIn_tup sh barShape]; rw [Bool.true_xor])
      rw [nm, nmS, hb, Bool.true_and]
      exact ev_andV w1 (all_signs (x := x) rfl (by omega) fun c => ev_bin rfl rfl (sign_in c))
  | _ => exact no _ rfl
theorem nm_ok {w : Str} (h : NmOk w) : nm (.str w) = true := by
  obtain ⟨cs, rfl, h1, h2, h3⟩ := h.cs
  have e : ∀ c ∈ cs, decide (c ∈ letterL) = true := fun c hc => by
    have := h3 c hc
    unfold Lc at this
    refine decide_eq_true ?_
    unfold letterL
    rw [codesL]
    refine List.mem_map.mpr ⟨c - 97, List.mem_range.mpr (by omega), by omega⟩
  rw [nm, nmS, mkS_len, decide_eq_true h1, decide_eq_true h2, decide_eq_false h.free]
  exact List.all_eq_true.mpr e
inductive CT where
  | yes | eqn (c : Str) (v : Nat) | les (c : Str) (v : Nat) | same (c o : Str) | mine (c : Str) | emp (c : Str) | lou (c : Str)
  | neg (a : CT) | con (a b : CT) | dis (a b : CT) | has (t x y : Str) (a : CT)
def numW (v : Nat) : Str := toString (v : Int)
def CT.d : CT → PyData
  | .yes => .tuple [.str "yes"]
  | .eqn c v => .tuple [.str "is", .str c, .int (v : Int)]
  | .les c v => .tuple [.str "below", .str c, .int (v : Int)]
  | .same c o => .tuple [.str "same", .str c, .str o]
  | .mine c => .tuple [.str "mine", .str c]
  | .emp c => .tuple [.str "empty", .str c]
  | .lou c => .tuple [.str "loud", .str c]
  | .neg a => .tuple [.str "not", a.d]
  | .con a b => .tuple [.str "and", a.d, b.d]
  | .dis a b => .tuple [.str "or", a.d, b.d]
  | .has t x y a => .tuple [.str "has", .str t, .str x, .str y, a.d]
def CT.rank : CT → Nat
  | .dis _ _ => 0
  | .con _ _ => 1
  | .neg _ => 2
  | _ => 3
def putW (r l : Nat) (ws : List Str) : List Str := if r < l then ("(" : Str) :: (ws ++ [(")" : Str)]) else ws
def CT.ws : CT → List Str
  | .yes => [("yes" : Str)]
  | .eqn c v => [c, ("=" : Str), numW v]
  | .les c v => [c, ("<" : Str), numW v]
  | .same c o => [c, ("=" : Str), o]
  | .mine c => [c, ("mine" : Str)]
  | .emp c => [c, ("empty" : Str)]
  | .lou c => [c, ("loud" : Str)]
  | .neg a => ("not" : Str) :: putW a.rank 2 a.ws
  | .con a b => putW a.rank 1 a.ws ++ ("and" : Str) :: putW b.rank 2 b.ws
  | .dis a b => putW a.rank 0 a.ws ++ ("or" : Str) :: putW b.rank 1 b.ws
  | .has t x y a => [("has" : Str), t, x, y, ("(" : Str)] ++ (a.ws ++ [(")" : Str)])
/-- well formed; h: a has may stand -/
def CT.Ok (h : Bool) : CT → Prop
  | .yes => True
  | .eqn c v => NmOk c ∧ v ≤ 9
  | .les c v => NmOk c ∧ v ≤ 10
  | .same c o => NmOk c ∧ NmOk o
  | .mine c => NmOk c
  | .emp c => NmOk c
  | .lou c => NmOk c
  | .neg a => a.Ok h
  | .con a b => a.Ok h ∧ b.Ok h
  | .dis a b => a.Ok h ∧ b.Ok h
  | .has t x y a => h = true ∧ NmOk t ∧ NmOk x ∧ NmOk y ∧ a.Ok h ∧ noHas a
where noHas : CT → Prop
  | .neg a => noHas a
  | .con a b => noHas a ∧ noHas b
  | .dis a b => noHas a ∧ noHas b
  | .has _ _ _ _ => False
  | _ => True
def CT.dep : CT → Nat
  | .neg a => a.dep + 1
  | .con a b => max a.dep b.dep + 1
  | .dis a b => max a.dep b.dep + 1
  | .has _ _ _ a => a.dep + 1
  | _ => 1
def CT.parts : CT → Nat
  | .neg a => a.parts + 1
  | .con a b => a.parts + b.parts + 1
  | .dis a b => a.parts + b.parts + 1
  | .has _ _ _ a => a.parts + 1
  | _ => 1
abbrev sp : Str := " "
theorem str_ext {x y : Str} (h : x.cps = y.cps) : x = y := by
  cases x
  cases y
  exact congrArg Str.mk h
theorem s_assoc (x y z : Str) : x ++ y ++ z = x ++ (y ++ z) := str_ext (Array.append_assoc (xs := x.cps) (ys := y.cps) (zs := z.cps))
theorem s_len (x y : Str) : (x ++ y).length = x.length + y.length := Array.size_append (xs := x.cps) (ys := y.cps)
def glue : List Str → Str
  | [] => Str.empty
  | [x] => x
  | x :: y :: r => x ++ (sp ++ glue (y :: r))
theorem glue_cons {x : Str} {r : List Str} (h : r ≠ []) : glue (x :: r) = x ++ (sp ++ glue r) := by
  cases r with
  | nil => exact absurd rfl h
  | cons y r => rfl
theorem glue_app : ∀ {a b : List Str}, a ≠ [] → b ≠ [] → glue (a ++ b) = glue a ++ (sp ++ glue b)
  | [], _, h, _ => absurd rfl h
  | [x], b, _, hb => glue_cons hb
  | x :: y :: r, b, _, hb => by
    show glue (x :: (y :: r ++ b)) = _
    rw [glue_cons (r := y :: r ++ b) (by simp), glue_app (a := y :: r) (by simp) hb, glue_cons (x := x) (r := y :: r) (by simp)]
    rw [s_assoc x, s_assoc sp]
theorem putW_ne {r l : Nat} {ws : List Str} (h : ws ≠ []) : putW r l ws ≠ [] := by
  unfold putW
  split
  · exact List.cons_ne_nil _ _
  · exact h
theorem CT.ws_ne : ∀ c : CT, c.ws ≠ []
  | .yes | .eqn _ _ | .les _ _ | .same _ _ | .mine _ | .emp _ | .lou _ | .neg _ | .has _ _ _ _ => by simp [CT.ws]
  | .con a b | .dis a b => by simp [CT.ws]
def CT.txt (c : CT) : Str := glue c.ws
def putT (r l : Nat) (t : Str) : Str := if r < l then "( " ++ (t ++ " )") else t
theorem putT_eq {r l : Nat} {ws : List Str} (h : ws ≠ []) : glue (putW r l ws) = putT r l (glue ws) := by
  unfold putW putT
  split
  · rw [glue_cons (by simp), glue_app h (by simp)]
    show ("(" : Str) ++ (sp ++ (glue ws ++ (sp ++ ")"))) = ("( " : Str) ++ (glue ws ++ " )")
    rw [← s_assoc, show ("(" : Str) ++ sp = "( " by decide +kernel, show sp ++ (")" : Str) = " )" by decide +kernel]
  · rfl
def CT.sz : CT → Nat
  | .neg a => a.sz + 1
  | .con a b => a.sz + b.sz + 1
  | .dis a b => a.sz + b.sz + 1
  | .has _ _ _ a => a.sz + 1
  | _ => 1
theorem CT.sz_dep : ∀ c : CT, c.sz + 1 ≤ 2 ^ c.dep
  | .yes | .eqn _ _ | .les _ _ | .same _ _ | .mine _ | .emp _ | .lou _ => by simp [CT.sz, CT.dep]
  | .neg a => by
    have := a.sz_dep
    simp only [CT.sz, CT.dep, Nat.pow_succ]
    omega
  | .has _ _ _ a => by
    have := a.sz_dep
    simp only [CT.sz, CT.dep, Nat.pow_succ]
    omega
  | .con a b => by
    have h1 := a.sz_dep
    have h2 := b.sz_dep
    have h3 := Nat.pow_le_pow_right (show 0 < 2 by decide) (Nat.le_max_left a.dep b.dep)
    have h4 := Nat.pow_le_pow_right (show 0 < 2 by decide) (Nat.le_max_right a.dep b.dep)
    simp only [CT.sz, CT.dep, Nat.pow_succ]
    omega
  | .dis a b => by
    have h1 := a.sz_dep
    have h2 := b.sz_dep
    have h3 := Nat.pow_le_pow_right (show 0 < 2 by decide) (Nat.le_max_left a.dep b.dep)
    have h4 := Nat.pow_le_pow_right (show 0 < 2 by decide) (Nat.le_max_right a.dep b.dep)
    simp only [CT.sz, CT.dep, Nat.pow_succ]
    omega
theorem NmOk.len {w : Str} (h : NmOk w) : w.length ≤ 8 := by
  obtain ⟨cs, rfl, _, h2, _⟩ := h.cs
  rw [mkS_len]
  exact h2
theorem num_len {v : Nat} (h : v ≤ 10) : (numW v).length ≤ 2 := by
  have : ∀ v ∈ List.range 11, (numW v).length ≤ 2 := by decide +kernel
  exact this v (List.mem_range.mpr (by omega))
theorem putT_len {r l : Nat} {t : Str} : (putT r l t).length ≤ t.length + 4 := by
  unfold putT
  split
  · rw [s_len, s_len, show ("( " : Str).length = 2 by decide +kernel, show (" )" : Str).length = 2 by decide +kernel]
    omega
  · omega
theorem CT.txt_neg (a : CT) : (CT.neg a).txt = ("not" : Str) ++ (sp ++ putT a.rank 2 a.txt) := by
  unfold CT.txt
  rw [CT.ws, glue_cons (putW_ne a.ws_ne), putT_eq a.ws_ne]
theorem CT.txt_con (a b : CT) : (CT.con a b).txt = putT a.rank 1 a.txt ++ (sp ++ (("and" : Str) ++ (sp ++ putT b.rank 2 b.txt))) := by
  unfold CT.txt
  rw [CT.ws, glue_app (putW_ne a.ws_ne) (by simp), glue_cons (putW_ne b.ws_ne), putT_eq a.ws_ne, putT_eq b.ws_ne]
theorem CT.txt_dis (a b : CT) : (CT.dis a b).txt = putT a.rank 0 a.txt ++ (sp ++ (("or" : Str) ++ (sp ++ putT b.rank 1 b.txt))) := by
  unfold CT.txt
  rw [CT.ws, glue_app (putW_ne a.ws_ne) (by simp), glue_cons (putW_ne b.ws_ne), putT_eq a.ws_ne, putT_eq b.ws_ne]
theorem CT.txt_has (t x y : Str) (a : CT) : (CT.has t x y a).txt = ("has" : Str) ++ (sp ++ (t ++ (sp ++ (x ++ (sp ++ (y ++ (sp ++ (("(" : Str) ++ (sp ++ (a.txt ++ (sp ++ (")" : Str)))))))))))) := by
  unfold CT.txt
  rw [CT.ws, glue_app (by simp) (by simp), glue_app a.ws_ne (by simp)]
  show (("has" : Str) ++ (sp ++ (t ++ (sp ++ (x ++ (sp ++ (y ++ (sp ++ ("(" : Str))))))))) ++ _ = _
  simp only [s_assoc]
  rfl
theorem CT.txt_len {h : Bool} : ∀ c : CT, c.Ok h → c.txt.length ≤ 40 * c.sz
  | .yes, _ => by decide +kernel
  | .eqn c v, ok => by
    have h1 := ok.1.len
    have h2 := num_len (v := v) (by have := ok.2; omega)
    show (c ++ (sp ++ (("=" : Str) ++ (sp ++ numW v)))).length ≤ 40 * 1
    rw [s_len, s_len, s_len, s_len, show sp.length = 1 by decide +kernel, show ("=" : Str).length = 1 by decide +kernel]
    omega
  | .les c v, ok => by
    have h1 := ok.1.len
    have h2 := num_len (v := v) ok.2
    show (c ++ (sp ++ (("<" : Str) ++ (sp ++ numW v)))).length ≤ 40 * 1
    rw [s_len, s_len, s_len, s_len, show sp.length = 1 by decide +kernel, show ("<" : Str).length = 1 by decide +kernel]
    omega
  | .same c o, ok => by
    have h1 := ok.1.len
    have h2 := ok.2.len
    show (c ++ (sp ++ (("=" : Str) ++ (sp ++ o)))).length ≤ 40 * 1
    rw [s_len, s_len, s_len, s_len, show sp.length = 1 by decide +kernel, show ("=" : Str).length = 1 by decide +kernel]
    omega
  | .mine c, ok => by
    have h1 := NmOk.len ok
    show (c ++ (sp ++ ("mine" : Str))).length ≤ 40 * 1
    rw [s_len, s_len, show sp.length = 1 by decide +kernel, show ("mine" : Str).length = 4 by decide +kernel]
    omega
  | .emp c, ok => by
    have h1 := NmOk.len ok
    show (c ++ (sp ++ ("empty" : Str))).length ≤ 40 * 1
    rw [s_len, s_len, show sp.length = 1 by decide +kernel, show ("empty" : Str).length = 5 by decide +kernel]
    omega
  | .lou c, ok => by
    have h1 := NmOk.len ok
    show (c ++ (sp ++ ("loud" : Str))).length ≤ 40 * 1
    rw [s_len, s_len, show sp.length = 1 by decide +kernel, show ("loud" : Str).length = 4 by decide +kernel]
    omega
  | .neg a, ok => by
    have h1 := CT.txt_len a ok
    have h2 := putT_len (r := a.rank) (l := 2) (t := a.txt)
    rw [CT.txt_neg, s_len, s_len, show sp.length = 1 by decide +kernel, show ("not" : Str).length = 3 by decide +kernel]
    simp only [CT.sz]
    omega
  | .con a b, ok => by
    have h1 := CT.txt_len a ok.1
    have h2 := putT_len (r := a.rank) (l := 1) (t := a.txt)
    have h3 := CT.txt_len b ok.2
    have h4 := putT_len (r := b.rank) (l := 2) (t := b.txt)
    rw [CT.txt_con, s_len, s_len, s_len, s_len, show sp.length = 1 by decide +kernel, show ("and" : Str).length = 3 by decide +kernel]
    simp only [CT.sz]
    omega
  | .dis a b, ok => by
    have h1 := CT.txt_len a ok.1
    have h2 := putT_len (r := a.rank) (l := 0) (t := a.txt)
    have h3 := CT.txt_len b ok.2
    have h4 := putT_len (r := b.rank) (l := 1) (t := b.txt)
    rw [CT.txt_dis, s_len, s_len, s_len, s_len, show sp.length = 1 by decide +kernel, show ("or" : Str).length = 2 by decide +kernel]
    simp only [CT.sz]
    omega
  | .has t x y a, ok => by
    obtain ⟨_, k1, k2, k3, k4, _⟩ := ok
    have h1 := CT.txt_len a k4
    have h2 := k1.len
    have h3 := k2.len
    have h4 := k3.len
    rw [CT.txt_has]
    simp only [s_len, show sp.length = 1 by decide +kernel, show ("has" : Str).length = 3 by decide +kernel, show ("(" : Str).length = 1 by decide +kernel, show (")" : Str).length = 1 by decide +kernel, CT.sz]
    omega
theorem CT.few {h : Bool} {c : CT} (ok : c.Ok h) {n : Nat} (hd : c.dep ≤ n) (hn : n ≤ 10) : c.txt.length ≤ 41000 := by
  have h1 := c.txt_len ok
  have h2 := c.sz_dep
  have h3 := Nat.pow_le_pow_right (show 0 < 2 by decide) (Nat.le_trans hd hn)
  have : (2 : Nat) ^ 10 = 1024 := by decide
  omega
def catS : List Str → Str
  | [] => Str.empty
  | x :: r => x ++ catS r
theorem e_app (x : Str) : Str.empty ++ x = x := str_ext (Array.empty_append (xs := x.cps))
theorem app_e (x : Str) : x ++ Str.empty = x := str_ext (Array.append_empty (xs := x.cps))
theorem dAdd_s {x y : Str} (h : x.length + y.length ≤ 100000) : dAdd (.str x) (.str y) = some (.str (x ++ y)) := if_pos (line_big h)
theorem eq_txt (c o : Str) : catS [c, (" = " : Str), o] = c ++ (sp ++ (("=" : Str) ++ (sp ++ o))) := by
  show c ++ ((" = " : Str) ++ (o ++ Str.empty)) = _
  rw [app_e, show (" = " : Str) = sp ++ (("=" : Str) ++ sp) by decide +kernel, s_assoc, s_assoc]
theorem lt_txt (c o : Str) : catS [c, (" < " : Str), o] = c ++ (sp ++ (("<" : Str) ++ (sp ++ o))) := by
  show c ++ ((" < " : Str) ++ (o ++ Str.empty)) = _
  rw [app_e, show (" < " : Str) = sp ++ (("<" : Str) ++ sp) by decide +kernel, s_assoc, s_assoc]
theorem rank_eq : ∀ c : CT, fm_law_rank [c.d] = some (.int (c.rank : Int)) := fun c => by
  cases c <;> rfl
theorem lput_eq {self : List PyData → Option PyData} {c : CT} {l : Nat} (hs : self [c.d] = some (.str c.txt)) (len : c.txt.length ≤ 41000) : fm_law_put self [c.d, .int (l : Int)] = some (.str (putT c.rank l c.txt)) := by
  unfold fm_law_put mb_law_put
  have t : mTst (mBin dGe (mCB fm_law_rank (mCons (mVar 0) mNil)) (mVar 1)) [some c.d, some (.int (l : Int)), some (.str c.txt)] = some (decide (l ≤ c.rank)) := by
    refine ev_tst (ev_bin (ev_cb (ev_cons rfl rfl) (rank_eq c)) rfl ?_)
    rw [dGe_int]
    refine congrArg (fun z => some (PyData.bool z)) ?_
    by_cases z : l ≤ c.rank
    · rw [decide_eq_true z, decide_eq_true (by omega)]
    · rw [decide_eq_false z, decide_eq_false (by omega)]
  refine ev_run (d := .str (putT c.rank l c.txt)) (ev_set (ev_cb (ev_cons rfl rfl) hs) (ev_ret ?_)) rfl
  unfold putT
  by_cases z : l ≤ c.rank
  · rw [decide_eq_true z] at t
    rw [if_neg (by omega)]
    exact ev_iT t rfl
  · rw [decide_eq_false z] at t
    rw [if_pos (by omega), ← s_assoc]
    have l2 : ("( " : Str).length = 2 := by decide +kernel
    have l3 : (" )" : Str).length = 2 := by decide +kernel
    refine ev_iF t (ev_bin (ev_bin rfl rfl (dAdd_s (by omega))) rfl (dAdd_s ?_))
    rw [s_len]
    omega
def wordsH : List Str := ["yes", "is", "below", "same", "mine", "empty", "loud", "not", "and", "or", "has"]
theorem word_sh : ∀ w ∈ wordsH, SeqAt.shaped (.str w) = true := by
  intro w hw
  simp only [wordsH, List.mem_cons, List.not_mem_nil, or_false] at hw
  rcases hw with rfl | rfl | rfl | rfl | rfl | rfl | rfl | rfl | rfl | rfl | rfl <;> decide +kernel
theorem dEq_s {x y : Str} (hx : SeqAt.shaped (.str x) = true) (hy : SeqAt.shaped (.str y) = true) : dEq (.str x) (.str y) = some (.bool (decide (x = y))) := by
  rw [dEq, if_pos ⟨hx, hy⟩, PyData.eqv]
  refine congrArg (fun told => some (PyData.bool told)) ?_
  by_cases z : x = y
  · simp [z]
  · simp [z]
theorem dIn_t {neg : Bool} {w : Str} {ws : List Str} (h1 : SeqAt.shaped (.str w) = true) (h2 : ∀ x ∈ ws, SeqAt.shaped (.str x) = true) : dIn neg (.str w) (.tuple (ws.map .str)) = some (.bool (xor neg (decide (w ∈ ws)))) := dIn_strs h1 h2
theorem t_in2 (w : Str) (hw : w ∈ wordsH) (c : PyData) : mTst (mBin (dIn false) (mVar 1) (mTup (mCons (mC (.str "and")) (mCons (mC (.str "or")) mNil)))) [some c, some (.str w)] = some (decide (w ∈ ([("and" : Str), "or"] : List Str))) := by
  refine ev_tst (ev_bin rfl (ev_tup (ds := ([("and" : Str), "or"] : List Str).map .str) rfl (line_big (show 2 ≤ 100000 by decide))) ?_)
  rw [dIn_t (word_sh w hw) (by intro x hx; exact word_sh x (by simp only [List.mem_cons, List.not_mem_nil, or_false] at hx; rcases hx with rfl | rfl <;> simp [wordsH]))]
  rw [Bool.false_xor]
theorem t_in3 (w : Str) (hw : w ∈ wordsH) (c : PyData) : mTst (mBin (dIn false) (mVar 1) (mTup (mCons (mC (.str "is")) (mCons (mC (.str "same")) (mCons (mC (.str "below")) mNil))))) [some c, some (.str w)] = some (decide (w ∈ ([("is" : Str), "same", "below"] : List Str))) := by
  refine ev_tst (ev_bin rfl (ev_tup (ds := ([("is" : Str), "same", "below"] : List Str).map .str) rfl (line_big (show 3 ≤ 100000 by decide))) ?_)
  rw [dIn_t (word_sh w hw) (by intro x hx; exact word_sh x (by simp only [List.mem_cons, List.not_mem_nil, or_false] at hx; rcases hx with rfl | rfl | rfl <;> simp [wordsH]))]
  rw [Bool.false_xor]
theorem t_eq (w z : Str) (hw : w ∈ wordsH) (hz : z ∈ wordsH) (c : PyData) : mTst (mBin dEq (mVar 1) (mC (.str z))) [some c, some (.str w)] = some (decide (w = z)) := ev_tst (ev_bin rfl rfl (dEq_s (word_sh w hw) (word_sh z hz)))
theorem dix_bool (b : Bool) : dIx (.list [.str " = ", .str " < "]) (.int (if b then 1 else 0)) = some (.str (if b then " < " else " = ")) := by
  cases b <;> rfl
theorem sel_eq (w : Str) (hw : w ∈ wordsH) (c : PyData) : mBin dIx (mLst (mCons (mC (.str " = ")) (mCons (mC (.str " < ")) mNil))) (mCB bInt (mCons (mBin dEq (mVar 1) (mC (.str "below"))) mNil)) [some c, some (.str w)] = some (.str (if w = "below" then " < " else " = ")) := by
  have e : mCB bInt (mCons (mBin dEq (mVar 1) (mC (.str "below"))) mNil) [some c, some (.str w)] = some (.int (if decide (w = "below") then 1 else 0)) := by
    refine ev_cb (ev_cons (ev_bin rfl rfl (dEq_s (word_sh w hw) (word_sh _ (by decide +kernel)))) rfl) ?_
    cases decide (w = "below") <;> rfl
  refine ev_bin (ev_lst (ds := [.str " = ", .str " < "]) rfl (line_big (show 2 ≤ 100000 by decide))) e ?_
  rw [dix_bool]
  by_cases z : w = "below"
  · rw [if_pos z, decide_eq_true z, if_pos rfl]
  · rw [if_neg z, decide_eq_false z, if_neg Bool.false_ne_true]
theorem bStr_num {v : Nat} (h : v ≤ 10) : bStr [.int (v : Int)] = some (.str (numW v)) := by
  refine if_pos ?_
  have : ∀ v ∈ List.range 11, (v : Int).natAbs.log2 < 1920 := by decide
  exact this v (List.mem_range.mpr (by omega))
theorem lwords_eq {h : Bool} : ∀ (c : CT) (n : Nat), c.Ok h → c.dep ≤ n → n ≤ 10 → fm_law_words n [c.d] = some (.str c.txt)
  | c, 0, ok, hd, _ => by cases c <;> simp [CT.dep] at hd
  | .yes, n + 1, ok, hd, hn => by
    show runB 2 (mb_law_words (fm_law_words n)) [CT.yes.d] = _
    unfold mb_law_words
    refine ev_run (d := .str "yes") (ev_set (d := .str "yes") rfl ?_) rfl
    refine ev_ifF (t_in2 _ (by decide +kernel) _) rfl (ev_ifF (t_eq _ _ (by decide +kernel) (by decide +kernel) _) rfl (ev_ifF (t_eq _ _ (by decide +kernel) (by decide +kernel) _) rfl (ev_ifF (t_in3 _ (by decide +kernel) _) rfl ?_)))
    exact ev_ret (ev_iT (t_eq _ _ (by decide +kernel) (by decide +kernel) _) rfl)
  | .eqn c v, n + 1, ok, hd, hn => by
    have l1 := ok.1.len
    have l2 := num_len (v := v) (by have := ok.2; omega)
    have l3 : (" = " : Str).length = 3 := by decide +kernel
    show runB 2 (mb_law_words (fm_law_words n)) [(CT.eqn c v).d] = _
    unfold mb_law_words
    refine ev_run (d := .str (CT.eqn c v).txt) (ev_set (d := .str "is") rfl ?_) rfl
    refine ev_ifF (t_in2 _ (by decide +kernel) _) rfl (ev_ifF (t_eq _ _ (by decide +kernel) (by decide +kernel) _) rfl (ev_ifF (t_eq _ _ (by decide +kernel) (by decide +kernel) _) rfl (ev_ifR (t_in3 _ (by decide +kernel) _) (ev_ret ?_))))
    have e : (c ++ (" = " : Str)) ++ numW v = (CT.eqn c v).txt := by
      rw [s_assoc]
      have := eq_txt c (numW v)
      rw [show catS [c, (" = " : Str), numW v] = c ++ ((" = " : Str) ++ (numW v ++ Str.empty)) from rfl, app_e] at this
      exact this
    rw [← e]
    exact ev_bin (ev_bin (b := .str " = ") (by first | rfl | exact (show mBin dIx (mVar 0) (mC (.int 1)) _ = some (.str c) from rfl)) (sel_eq _ (by decide +kernel) _) (dAdd_s (by omega))) (ev_cb (ev_cons rfl rfl) (bStr_num (by have := ok.2; omega))) (dAdd_s (by rw [s_len]; omega))
  | .les c v, n + 1, ok, hd, hn => by
    have l1 := ok.1.len
    have l2 := num_len (v := v) ok.2
    have l3 : (" < " : Str).length = 3 := by decide +kernel
    show runB 2 (mb_law_words (fm_law_words n)) [(CT.les c v).d] = _
    unfold mb_law_words
    refine ev_run (d := .str (CT.les c v).txt) (ev_set (d := .str "below") rfl ?_) rfl
    refine ev_ifF (t_in2 _ (by decide +kernel) _) rfl (ev_ifF (t_eq _ _ (by decide +kernel) (by decide +kernel) _) rfl (ev_ifF (t_eq _ _ (by decide +kernel) (by decide +kernel) _) rfl (ev_ifR (t_in3 _ (by decide +kernel) _) (ev_ret ?_))))
    have e : (c ++ (" < " : Str)) ++ numW v = (CT.les c v).txt := by
      rw [s_assoc]
      have := lt_txt c (numW v)
      rw [show catS [c, (" < " : Str), numW v] = c ++ ((" < " : Str) ++ (numW v ++ Str.empty)) from rfl, app_e] at this
      exact this
    rw [← e]
    exact ev_bin (ev_bin (b := .str " < ") (by first | rfl | exact (show mBin dIx (mVar 0) (mC (.int 1)) _ = some (.str c) from rfl)) (sel_eq _ (by decide +kernel) _) (dAdd_s (by omega))) (ev_cb (ev_cons rfl rfl) (bStr_num ok.2)) (dAdd_s (by rw [s_len]; omega))
  | .same c o, n + 1, ok, hd, hn => by
    have l1 := ok.1.len
    have l2 := ok.2.len
    have l3 : (" = " : Str).length = 3 := by decide +kernel
    show runB 2 (mb_law_words (fm_law_words n)) [(CT.same c o).d] = _
    unfold mb_law_words
    refine ev_run (d := .str (CT.same c o).txt) (ev_set (d := .str "same") rfl ?_) rfl
    refine ev_ifF (t_in2 _ (by decide +kernel) _) rfl (ev_ifF (t_eq _ _ (by decide +kernel) (by decide +kernel) _) rfl (ev_ifF (t_eq _ _ (by decide +kernel) (by decide +kernel) _) rfl (ev_ifR (t_in3 _ (by decide +kernel) _) (ev_ret ?_))))
    have e : (c ++ (" = " : Str)) ++ o = (CT.same c o).txt := by
      rw [s_assoc]
      have := eq_txt c (o)
      rw [show catS [c, (" = " : Str), o] = c ++ ((" = " : Str) ++ (o ++ Str.empty)) from rfl, app_e] at this
      exact this
    rw [← e]
    exact ev_bin (ev_bin (b := .str " = ") (by first | rfl | exact (show mBin dIx (mVar 0) (mC (.int 1)) _ = some (.str c) from rfl)) (sel_eq _ (by decide +kernel) _) (dAdd_s (by omega))) (ev_cb (ev_cons rfl rfl) (rfl)) (dAdd_s (by rw [s_len]; omega))
  | .mine c, n + 1, ok, hd, hn => by
    have l1 := NmOk.len ok
    have l2 : (" " : Str).length = 1 := by decide +kernel
    have l3 : ("mine" : Str).length ≤ 5 := by decide +kernel
    show runB 2 (mb_law_words (fm_law_words n)) [(CT.mine c).d] = _
    unfold mb_law_words
    refine ev_run (d := .str (CT.mine c).txt) (ev_set (d := .str "mine") rfl ?_) rfl
    refine ev_ifF (t_in2 _ (by decide +kernel) _) rfl (ev_ifF (t_eq _ _ (by decide +kernel) (by decide +kernel) _) rfl (ev_ifF (t_eq _ _ (by decide +kernel) (by decide +kernel) _) rfl (ev_ifF (t_in3 _ (by decide +kernel) _) rfl (ev_ret ?_))))
    refine ev_iF (t_eq _ _ (by decide +kernel) (by decide +kernel) _) ?_
    show _ = some (PyData.str (c ++ ((" " : Str) ++ ("mine" : Str))))
    rw [← s_assoc]
    exact ev_bin (ev_bin rfl rfl (dAdd_s (by omega))) rfl (dAdd_s (by rw [s_len]; omega))
  | .emp c, n + 1, ok, hd, hn => by
    have l1 := NmOk.len ok
    have l2 : (" " : Str).length = 1 := by decide +kernel
    have l3 : ("empty" : Str).length ≤ 5 := by decide +kernel
    show runB 2 (mb_law_words (fm_law_words n)) [(CT.emp c).d] = _
    unfold mb_law_words
    refine ev_run (d := .str (CT.emp c).txt) (ev_set (d := .str "empty") rfl ?_) rfl
    refine ev_ifF (t_in2 _ (by decide +kernel) _) rfl (ev_ifF (t_eq _ _ (by decide +kernel) (by decide +kernel) _) rfl (ev_ifF (t_eq _ _ (by decide +kernel) (by decide +kernel) _) rfl (ev_ifF (t_in3 _ (by decide +kernel) _) rfl (ev_ret ?_))))
    refine ev_iF (t_eq _ _ (by decide +kernel) (by decide +kernel) _) ?_
    show _ = some (PyData.str (c ++ ((" " : Str) ++ ("empty" : Str))))
    rw [← s_assoc]
    exact ev_bin (ev_bin rfl rfl (dAdd_s (by omega))) rfl (dAdd_s (by rw [s_len]; omega))
  | .lou c, n + 1, ok, hd, hn => by
    have l1 := NmOk.len ok
    have l2 : (" " : Str).length = 1 := by decide +kernel
    have l3 : ("loud" : Str).length ≤ 5 := by decide +kernel
    show runB 2 (mb_law_words (fm_law_words n)) [(CT.lou c).d] = _
    unfold mb_law_words
    refine ev_run (d := .str (CT.lou c).txt) (ev_set (d := .str "loud") rfl ?_) rfl
    refine ev_ifF (t_in2 _ (by decide +kernel) _) rfl (ev_ifF (t_eq _ _ (by decide +kernel) (by decide +kernel) _) rfl (ev_ifF (t_eq _ _ (by decide +kernel) (by decide +kernel) _) rfl (ev_ifF (t_in3 _ (by decide +kernel) _) rfl (ev_ret ?_))))
    refine ev_iF (t_eq _ _ (by decide +kernel) (by decide +kernel) _) ?_
    show _ = some (PyData.str (c ++ ((" " : Str) ++ ("loud" : Str))))
    rw [← s_assoc]
    exact ev_bin (ev_bin rfl rfl (dAdd_s (by omega))) rfl (dAdd_s (by rw [s_len]; omega))
  | .neg a, n + 1, ok, hd, hn => by
    have hd : a.dep + 1 ≤ n + 1 := hd
    have ih := lwords_eq a n ok (by omega) (by omega)
    have fa := CT.few (c := a) ok (n := n) (by omega) (by omega)
    have pl := putT_len (r := a.rank) (l := 2) (t := a.txt)
    have l2 : ("not " : Str).length = 4 := by decide +kernel
    show runB 2 (mb_law_words (fm_law_words n)) [(CT.neg a).d] = _
    unfold mb_law_words
    refine ev_run (d := .str (CT.neg a).txt) (ev_set (d := .str "not") rfl ?_) rfl
    refine ev_ifF (t_in2 _ (by decide +kernel) _) rfl (ev_ifR (t_eq _ _ (by decide +kernel) (by decide +kernel) _) (ev_ret ?_))
    rw [CT.txt_neg, ← s_assoc, show ("not" : Str) ++ sp = "not " by decide +kernel]
    exact ev_bin rfl (ev_cb (ev_cons rfl (ev_cons (d := .int ((2 : Nat) : Int)) rfl rfl)) (lput_eq (l := 2) ih fa)) (dAdd_s (by omega))
  | .con a b, n + 1, ok, hd, hn => by
    have hd : max a.dep b.dep + 1 ≤ n + 1 := hd
    have ia := lwords_eq a n ok.1 (by omega) (by omega)
    have ib := lwords_eq b n ok.2 (by omega) (by omega)
    have fa := CT.few (c := a) ok.1 (n := n) (by omega) (by omega)
    have fb := CT.few (c := b) ok.2 (n := n) (by omega) (by omega)
    have pa := putT_len (r := a.rank) (l := 1) (t := a.txt)
    have pb := putT_len (r := b.rank) (l := 2) (t := b.txt)
    have l2 : (" " : Str).length = 1 := by decide +kernel
    have l3 : ("and" : Str).length ≤ 3 := by decide +kernel
    show runB 2 (mb_law_words (fm_law_words n)) [(CT.con a b).d] = _
    unfold mb_law_words
    refine ev_run (d := .str (CT.con a b).txt) (ev_set (d := .str "and") rfl ?_) rfl
    refine ev_ifR (t_in2 _ (by decide +kernel) _) (ev_ret ?_)
    rw [CT.txt_con]
    show _ = some (PyData.str (putT a.rank 1 a.txt ++ ((" " : Str) ++ (("and" : Str) ++ ((" " : Str) ++ putT b.rank 2 b.txt)))))
    rw [← s_assoc, ← s_assoc, ← s_assoc]
    have rk : mCB fm_law_rank (mCons (mVar 0) mNil) [some (CT.con a b).d, some (.str "and")] = some (.int ((1 : Nat) : Int)) := ev_cb (ev_cons rfl rfl) (rank_eq (CT.con a b))
    exact ev_bin (ev_bin (ev_bin (ev_bin (ev_cb (ev_cons rfl (ev_cons rk rfl)) (lput_eq (l := 1) ia fa)) rfl (dAdd_s (by omega))) rfl (dAdd_s (by rw [s_len]; omega))) rfl (dAdd_s (by rw [s_len, s_len]; omega))) (ev_cb (ev_cons rfl (ev_cons (d := .int ((2 : Nat) : Int)) (ev_bin rk rfl rfl) rfl)) (lput_eq (l := 2) ib fb)) (dAdd_s (by rw [s_len, s_len, s_len]; omega))
  | .dis a b, n + 1, ok, hd, hn => by
    have hd : max a.dep b.dep + 1 ≤ n + 1 := hd
    have ia := lwords_eq a n ok.1 (by omega) (by omega)
    have ib := lwords_eq b n ok.2 (by omega) (by omega)
    have fa := CT.few (c := a) ok.1 (n := n) (by omega) (by omega)
    have fb := CT.few (c := b) ok.2 (n := n) (by omega) (by omega)
    have pa := putT_len (r := a.rank) (l := 0) (t := a.txt)
    have pb := putT_len (r := b.rank) (l := 1) (t := b.txt)
    have l2 : (" " : Str).length = 1 := by decide +kernel
    have l3 : ("or" : Str).length ≤ 3 := by decide +kernel
    show runB 2 (mb_law_words (fm_law_words n)) [(CT.dis a b).d] = _
    unfold mb_law_words
    refine ev_run (d := .str (CT.dis a b).txt) (ev_set (d := .str "or") rfl ?_) rfl
    refine ev_ifR (t_in2 _ (by decide +kernel) _) (ev_ret ?_)
    rw [CT.txt_dis]
    show _ = some (PyData.str (putT a.rank 0 a.txt ++ ((" " : Str) ++ (("or" : Str) ++ ((" " : Str) ++ putT b.rank 1 b.txt)))))
    rw [← s_assoc, ← s_assoc, ← s_assoc]
    have rk : mCB fm_law_rank (mCons (mVar 0) mNil) [some (CT.dis a b).d, some (.str "or")] = some (.int ((0 : Nat) : Int)) := ev_cb (ev_cons rfl rfl) (rank_eq (CT.dis a b))
    exact ev_bin (ev_bin (ev_bin (ev_bin (ev_cb (ev_cons rfl (ev_cons rk rfl)) (lput_eq (l := 0) ia fa)) rfl (dAdd_s (by omega))) rfl (dAdd_s (by rw [s_len]; omega))) rfl (dAdd_s (by rw [s_len, s_len]; omega))) (ev_cb (ev_cons rfl (ev_cons (d := .int ((1 : Nat) : Int)) (ev_bin rk rfl rfl) rfl)) (lput_eq (l := 1) ib fb)) (dAdd_s (by rw [s_len, s_len, s_len]; omega))
  | .has t x y a, n + 1, ok, hd, hn => by
    have hd : a.dep + 1 ≤ n + 1 := hd
    obtain ⟨_, k1, k2, k3, k4, _⟩ := ok
    have ih := lwords_eq a n k4 (by omega) (by omega)
    have fa := CT.few (c := a) k4 (n := n) (by omega) (by omega)
    have m1 := k1.len
    have m2 := k2.len
    have m3 := k3.len
    have l2 : (" " : Str).length = 1 := by decide +kernel
    have l3 : ("has" : Str).length = 3 := by decide +kernel
    have l4 : (" ( " : Str).length = 3 := by decide +kernel
    have l5 : (" )" : Str).length = 2 := by decide +kernel
    show runB 2 (mb_law_words (fm_law_words n)) [(CT.has t x y a).d] = _
    unfold mb_law_words
    refine ev_run (d := .str (CT.has t x y a).txt) (ev_set (d := .str "has") rfl ?_) rfl
    refine ev_ifF (t_in2 _ (by decide +kernel) _) rfl (ev_ifF (t_eq _ _ (by decide +kernel) (by decide +kernel) _) rfl (ev_ifR (t_eq _ _ (by decide +kernel) (by decide +kernel) _) (ev_ret ?_)))
    have jn : mJoin (mC (.str " ")) (mSl (mVar 0) mNoPart (mPart (mC (.int 4)))) [some (CT.has t x y a).d, some (.str "has")] = some (.str (Txt.join " " [("has" : Str), t, x, y])) := by
      have e : mSl (mVar 0) mNoPart (mPart (mC (.int 4))) [some (CT.has t x y a).d, some (.str "has")] = some (.tuple ([("has" : Str), t, x, y].map .str)) := rfl
      unfold mJoin
      rw [e]
      show joinD " " ([("has" : Str), t, x, y].map .str) = _
      unfold joinD
      rw [strsOf_map, Option.bind_some]
      refine if_pos ?_
      simp only [List.map_cons, List.map_nil, List.sum_cons, List.sum_nil, List.length_cons, List.length_nil]
      omega
    have je : Txt.join " " [("has" : Str), t, x, y] = ("has" : Str) ++ (sp ++ (t ++ (sp ++ (x ++ (sp ++ y))))) := by
      rw [TL.join_eq]
      show ("has" : Str) ++ " " ++ (t ++ " " ++ (x ++ " " ++ y)) = _
      simp only [s_assoc]
    rw [je] at jn
    have e : ((("has" : Str) ++ (sp ++ (t ++ (sp ++ (x ++ (sp ++ y)))))) ++ (" ( " : Str) ++ a.txt) ++ (" )" : Str) = (CT.has t x y a).txt := by
      rw [CT.txt_has, show (" ( " : Str) = sp ++ (("(" : Str) ++ sp) by decide +kernel, show (" )" : Str) = sp ++ (")" : Str) by decide +kernel]
      simp only [s_assoc]
    rw [← e]
    exact ev_bin (ev_bin (ev_bin jn rfl (dAdd_s (by simp only [s_len, l2, l3]; omega))) (ev_cb (ev_cons rfl rfl) ih) (dAdd_s (by simp only [s_len, l2, l3, l4]; omega))) rfl (dAdd_s (by simp only [s_len, l2, l3, l4]; omega))
def RS (ws : List Str) (p : Nat) : PyData := .dict [(.str "words", .list (ws.map .str)), (.str "place", .int (p : Int))]
def BS (m br : Nat) (wh : Bool) : PyData := .dict [(.str "most", .int 8), (.str "parts", .int (m : Int)), (.str "pairs", .int 0), (.str "brackets", .int (br : Int)), (.str "within_has", .bool wh)]
def optW : Option Str → PyData
  | some w => .str w
  | none => .none
theorem ev_runS {N : Nat} {ks : List Nat} {m : En → Option Fy} {ss ds ss' : List PyData} {d : PyData} {env : En} (h : m ((ss ++ ds).map some ++ List.replicate (N - (ss ++ ds).length) none) = some (.rt d env)) (h2 : getS (isOf ks) env = some ss') : runS N ks m ss ds = some (.inl (d, ss')) := by
  unfold runS
  rw [h]
  show (getS (isOf ks) env).bind _ = _
  rw [h2]
  rfl
theorem ev_runSn {N : Nat} {ks : List Nat} {m : En → Option Fy} {ss ds ss' : List PyData} {env : En} (h : m ((ss ++ ds).map some ++ List.replicate (N - (ss ++ ds).length) none) = some (.nx env)) (h2 : getS (isOf ks) env = some ss') : runS N ks m ss ds = some (.inl (.none, ss')) := by
  unfold runS
  rw [h]
  show (getS (isOf ks) env).bind _ = _
  rw [h2]
  rfl
theorem ev_runSx {N : Nat} {ks : List Nat} {m : En → Option Fy} {ss ds : List PyData} {x : Str} {env : En} (h : m ((ss ++ ds).map some ++ List.replicate (N - (ss ++ ds).length) none) = some (.xc x env)) : runS N ks m ss ds = some (.inr x) := by
  unfold runS
  rw [h]
  rfl
section
variable {env e1 : En} {d : PyData} {b : Bool} {x : Str}
theorem y_seq {m n : En → Option Fy} {r : Option Fy} (h : m env = some (.nx e1)) (h2 : n e1 = r) : mSeqY m n env = r := by
  unfold mSeqY
  rw [h]
  exact h2
theorem y_seqR {m n : En → Option Fy} (h : m env = some (.rt d e1)) : mSeqY m n env = some (.rt d e1) := by
  unfold mSeqY
  rw [h]
  rfl
theorem y_seqX {m n : En → Option Fy} (h : m env = some (.xc x e1)) : mSeqY m n env = some (.xc x e1) := by
  unfold mSeqY
  rw [h]
  rfl
theorem y_asgE {m : En → Option (Zx PyData)} {i : Nat} (h : m env = some (.val d e1)) : mAsgY m i env = some (.nx (e1.set i (some d))) := by
  unfold mAsgY
  rw [h]
  rfl
theorem y_asgX {m : En → Option (Zx PyData)} {i : Nat} (h : m env = some (.xc x e1)) : mAsgY m i env = some (.xc x e1) := by
  unfold mAsgY
  rw [h]
  rfl
theorem y_retE {m : En → Option (Zx PyData)} (h : m env = some (.val d e1)) : mRetY m env = some (.rt d e1) := by
  unfold mRetY
  rw [h]
  rfl
theorem y_retX {m : En → Option (Zx PyData)} (h : m env = some (.xc x e1)) : mRetY m env = some (.xc x e1) := by
  unfold mRetY
  rw [h]
  rfl
theorem y_expE {m : En → Option (Zx PyData)} (h : m env = some (.val d e1)) : mExprY m env = some (.nx e1) := by
  unfold mExprY
  rw [h]
  rfl
theorem y_expX {m : En → Option (Zx PyData)} (h : m env = some (.xc x e1)) : mExprY m env = some (.xc x e1) := by
  unfold mExprY
  rw [h]
  rfl
theorem y_ifE {m : En → Option (Zx Bool)} {n p : En → Option Fy} {r : Option Fy} (h : m env = some (.val b e1)) (h2 : (if b = true then n e1 else p e1) = r) : mIfY m n p env = r := by
  unfold mIfY
  rw [h]
  exact h2
theorem z_ofE {α : Type} {m : En → Option α} {a : α} (h : m env = some a) : zOf m env = some (.val a env) := by
  unfold zOf
  rw [h]
  rfl
end
theorem bLen_l (ws : List Str) (h : ws.length ≤ 100000) : bLen [.list (ws.map PyData.str)] = some (.int (ws.length : Int)) := by
  show some (PyData.int ((ws.map PyData.str).length : Int)) = _
  rw [List.length_map]
theorem ahead_eq (ws : List Str) (p : Nat) (h : ws.length ≤ 100000) : fs_Reader_ahead [RS ws p] [] = some (.inl (optW ws[p]?, [RS ws p])) := by
  have t : mTst (mBin dLt (mFld 0 "place") (mCB bLen (mCons (mFld 0 "words") mNil))) [some (RS ws p)] = some (decide (p < ws.length)) := by
    refine ev_tst (ev_bin (a := .int (p : Int)) (b := .int (ws.length : Int)) rfl (ev_cb (ds := [.list (ws.map .str)]) rfl (bLen_l ws h)) ?_)
    rw [dLt_int]
    refine congrArg (fun z => some (PyData.bool z)) ?_
    by_cases z : p < ws.length
    · rw [decide_eq_true z, decide_eq_true (by omega)]
    · rw [decide_eq_false z, decide_eq_false (by omega)]
  have v : mIf (mTst (mBin dLt (mFld 0 "place") (mCB bLen (mCons (mFld 0 "words") mNil)))) (mBin dIx (mFld 0 "words") (mFld 0 "place")) (mC .none) [some (RS ws p)] = some (optW ws[p]?) := by
    by_cases z : p < ws.length
    · rw [decide_eq_true z] at t
      refine ev_iT t (ev_bin (a := .list (ws.map .str)) (b := .int (p : Int)) rfl rfl ?_)
      rw [List.getElem?_eq_getElem z]
      show atI (ws.map PyData.str) ((p : Nat) : Int) = some (PyData.str ws[p])
      exact atI_nat (by rw [List.getElem?_map, List.getElem?_eq_getElem z]; rfl)
    · rw [decide_eq_false z] at t
      refine ev_iF t ?_
      (rw [List.getElem?_eq_none (by omega)])
      rfl
  unfold fs_Reader_ahead mb_Reader_ahead
  exact ev_runS (y_retE (z_ofE v)) rfl
theorem me_eq {m : Str} {i c n : Nat} {fn : List PyData → List PyData → Option ((PyData × List PyData) ⊕ Str)} {mr : En → Option (Zx (List PyData))} {env : En} {ds ss' : List PyData} {d s : PyData} (hn : hasNo m i env = true) (hs : mVar i env = some s) (ha : mr env = some (.val ds env)) (hl : ds.length = n) (hf : fn [s] ds = some (.inl (d, ss'))) :
    mMeth m i c n fn mr env = some (.val d (setS [(i, c)] ss' (clrS [(i, c)] env))) := by
  unfold mMeth
  rw [if_pos hn]
  unfold mCS
  have g : getS [(i, c)] env = some [s] := by
    show ((mVar i env).bind fun s => (getS [] env).bind fun ss => some (s :: ss)) = _
    rw [hs]
    rfl
  rw [g]
  show zBind mr _ env = _
  unfold zBind
  rw [ha]
  show (if ds.length = n then _ else _) = _
  rw [if_pos hl, g]
  show ((fn [s] ds).bind _) = _
  rw [hf]
  rfl
theorem take_eq (ws : List Str) (p : Nat) (h : ws.length ≤ 100000) {w : Str} (hw : ws[p]? = some w) : fs_Reader_take [RS ws p] [] = some (.inl (.str w, [RS ws (p + 1)])) := by
  have a := ahead_eq ws p h
  rw [hw] at a
  unfold fs_Reader_take mb_Reader_take
  exact ev_runS (env := [some (RS ws (p + 1)), some (.str w)]) (y_seq (y_asgE (me_eq rfl rfl rfl rfl a)) (y_seq (e1 := [some (RS ws p), some (.str w)]) (y_ifE (b := false) (z_ofE rfl) rfl) (y_seq (e1 := [some (RS ws (p + 1)), some (.str w)]) rfl rfl))) rfl
theorem none_str {w : Str} (hw : SeqAt.shaped (.str w) = true) : dNe .none (.str w) = some (.bool true) := by
  rw [dNe, if_pos ⟨rfl, hw⟩]
  simp [PyData.eqv]
theorem zb {α β : Type} {m : En → Option (Zx α)} {g : α → En → Option (Zx β)} {env e1 : En} {d : α} (h : m env = some (.val d e1)) : zBind m g env = g d e1 := by
  unfold zBind
  rw [h]
  rfl
theorem takes_eq (ws : List Str) (p : Nat) (h : ws.length ≤ 100000) (sh : ∀ w ∈ ws, SeqAt.shaped (.str w) = true) {w : Str} (hw : SeqAt.shaped (.str w) = true) : fs_Reader_takes [RS ws p] [.str w] = some (.inl (.bool (decide (ws[p]? = some w)), [RS ws (if ws[p]? = some w then p + 1 else p)])) := by
  have a := ahead_eq ws p h
  unfold fs_Reader_takes mb_Reader_takes
  have ne : dNe (optW ws[p]?) (.str w) = some (.bool (!decide (ws[p]? = some w))) := by
    cases e : ws[p]? with
    | none => exact none_str hw
    | some v =>
      have hv := sh v (List.mem_of_getElem? e)
      show dNe (.str v) (.str w) = _
      rw [dNe, if_pos ⟨hv, hw⟩, PyData.eqv]
      refine congrArg (fun z => some (PyData.bool z)) ?_
      by_cases z : v = w
      · simp [z]
      · simp [z]
  have t : mCmpZ dNe (mMeth "ahead" 0 0 0 fs_Reader_ahead mNilZ) (zOf (mVar 1)) [some (RS ws p), some (.str w)] = some (.val (!decide (ws[p]? = some w)) [some (RS ws p), some (.str w)]) := by
    have m : mMeth "ahead" 0 0 0 fs_Reader_ahead mNilZ [some (RS ws p), some (.str w)] = some (.val (optW ws[p]?) [some (RS ws p), some (.str w)]) := me_eq rfl rfl rfl rfl a
    have o : mOpZ dNe (mMeth "ahead" 0 0 0 fs_Reader_ahead mNilZ) (zOf (mVar 1)) [some (RS ws p), some (.str w)] = some (.val (.bool (!decide (ws[p]? = some w))) [some (RS ws p), some (.str w)]) := by
      unfold mOpZ
      rw [zb m, zb (d := .str w) (e1 := [some (RS ws p), some (.str w)]) rfl, ne]
      rfl
    unfold mCmpZ
    rw [zb o]
  by_cases z : ws[p]? = some w
  · rw [decide_eq_true z] at t ⊢
    rw [if_pos z]
    exact ev_runS (env := [some (RS ws (p + 1)), some (.str w)]) (y_seq (e1 := [some (RS ws p), some (.str w)]) (y_ifE (b := false) t rfl) (y_seq (e1 := [some (RS ws (p + 1)), some (.str w)]) rfl rfl)) rfl
  · rw [decide_eq_false z] at t ⊢
    rw [if_neg z]
    exact ev_runS (env := [some (RS ws p), some (.str w)]) (y_seqR (y_ifE (b := true) t rfl)) rfl
section
variable {env e1 e2 : En} {d : PyData} {b : Bool} {x : Str}
theorem z_notE {m : En → Option (Zx Bool)} (h : m env = some (.val b e1)) : mNotZ m env = some (.val (!b) e1) := by
  unfold mNotZ
  rw [zb h]
theorem z_truE {m : En → Option (Zx PyData)} (h : m env = some (.val d e1)) (t : truD d = some b) : mTruZ m env = some (.val b e1) := by
  unfold mTruZ
  rw [zb h, t]
  rfl
theorem z_consE {m : En → Option (Zx PyData)} {ms : En → Option (Zx (List PyData))} {ds : List PyData} (h : m env = some (.val d e1)) (h2 : ms e1 = some (.val ds e2)) : mConsZ m ms env = some (.val (d :: ds) e2) := by
  unfold mConsZ
  rw [zb h, zb h2]
theorem z_tupE {ms : En → Option (Zx (List PyData))} {ds : List PyData} (h : ms env = some (.val ds e1)) (hl : ds.length ≤ 100) : mTupZ ms env = some (.val (.tuple ds) e1) := by
  unfold mTupZ
  rw [zb h]
  exact if_pos (line_big (by omega))
theorem z_dataE {n : Nat} {fn : List PyData → Option PyData} {ms : En → Option (Zx (List PyData))} {ds : List PyData} (h : ms env = some (.val ds e1)) (hl : ds.length = n) (hf : fn ds = some d) : mDataZ n fn ms env = some (.val d e1) := by
  unfold mDataZ
  rw [zb h]
  show (if ds.length = n then _ else _) = _
  rw [if_pos hl, hf]
  rfl
end
theorem take_this_eq (ws : List Str) (p : Nat) (h : ws.length ≤ 100000) (sh : ∀ w ∈ ws, SeqAt.shaped (.str w) = true) {w : Str} (hw : ws[p]? = some w) : fs_Reader_take_this [RS ws p] [.str w] = some (.inl (.none, [RS ws (p + 1)])) := by
  have a := takes_eq ws p h sh (w := w) (sh w (List.mem_of_getElem? hw))
  rw [if_pos hw, decide_eq_true hw] at a
  unfold fs_Reader_take_this mb_Reader_take_this
  refine ev_runSn (env := [some (RS ws (p + 1)), some (.str w)]) (y_ifE (b := false) (z_notE (b := true) (z_truE (d := .bool true) (me_eq rfl rfl (z_consE (d := .str w) rfl rfl) rfl a) rfl)) rfl) rfl
theorem is_name_ok {w : Str} (h : NmOk w) : fm_is_name [.str w] = some (.bool true) := by
  rw [is_name_eq (N := 0) (.str h.shaped (Nat.le_trans h.len (by decide))), nm_ok h]
theorem take_name_eq (ws : List Str) (p : Nat) (h : ws.length ≤ 100000) {w : Str} (hw : ws[p]? = some w) (ok : NmOk w) : fs_Reader_take_name [RS ws p] [] = some (.inl (.str w, [RS ws (p + 1)])) := by
  have a := take_eq ws p h hw
  unfold fs_Reader_take_name mb_Reader_take_name
  have t : mNotT (mTru (mCB fm_is_name (mCons (mVar 1) mNil))) [some (RS ws (p + 1)), some (.str w)] = some false := ev_notT (b := true) (ev_tru (d := .bool true) (ev_cb (ev_cons rfl rfl) (is_name_ok ok)) rfl)
  exact ev_runS (env := [some (RS ws (p + 1)), some (.str w)]) (y_seq (e1 := [some (RS ws (p + 1)), some (.str w)]) (y_asgE (me_eq rfl rfl rfl rfl a)) (y_seq (e1 := [some (RS ws (p + 1)), some (.str w)]) (y_ifE (b := false) (z_ofE t) rfl) rfl)) rfl
def numB (v most : Nat) : Bool := match fm_written_number [.str (numW v), .int (most : Int)] with
  | some (.int i) => decide (i = (v : Int))
  | _ => false
theorem numB_ok {v most : Nat} (h : numB v most = true) : fm_written_number [.str (numW v), .int (most : Int)] = some (.int (v : Int)) := by
  unfold numB at h
  split at h
  · rename_i i e
    rw [e, of_decide_eq_true h]
  · cases h
theorem numB_9 : (List.range 10).all (fun v => numB v 9) = true := by decide +kernel
theorem numB_10 : (List.range 11).all (fun v => numB v 10) = true := by decide +kernel
theorem number_eq : ∀ v most : Nat, v ≤ most → (most = 9 ∨ most = 10) → fm_written_number [.str (numW v), .int (most : Int)] = some (.int (v : Int)) := by
  intro v most hv hm
  rcases hm with rfl | rfl
  · exact numB_ok (List.all_eq_true.mp numB_9 v (List.mem_range.mpr (by omega)))
  · exact numB_ok (List.all_eq_true.mp numB_10 v (List.mem_range.mpr (by omega)))
theorem take_number_eq (ws : List Str) (p : Nat) (h : ws.length ≤ 100000) {v most : Nat} (hw : ws[p]? = some (numW v)) (hv : v ≤ most) (hm : most = 9 ∨ most = 10) : fs_Reader_take_number [RS ws p] [.int (most : Int)] = some (.inl (.int (v : Int), [RS ws (p + 1)])) := by
  have a := take_eq ws p h hw
  have n := number_eq v most hv hm
  unfold fs_Reader_take_number mb_Reader_take_number
  exact ev_runS (env := [some (RS ws (p + 1)), some (.int (most : Int)), some (.int (v : Int))]) (y_seq (e1 := [some (RS ws (p + 1)), some (.int (most : Int)), some (.int (v : Int))]) (y_asgE (e1 := [some (RS ws (p + 1)), some (.int (most : Int)), none]) (z_dataE (ds := [.str (numW v), .int (most : Int)]) (z_consE (me_eq rfl rfl rfl rfl a) (z_consE (d := .int (most : Int)) rfl rfl)) rfl n)) (y_seq (e1 := [some (RS ws (p + 1)), some (.int (most : Int)), some (.int (v : Int))]) (y_ifE (b := false) (z_ofE rfl) rfl) rfl)) rfl
theorem count_eq {m br : Nat} {wh : Bool} (h : m + 1 ≤ 8) : fs_Bounds_count_part [BS m br wh] [] = some (.inl (.none, [BS (m + 1) br wh])) := by
  have t : mTst (mBin dGt (mFld 0 "parts") (mFld 0 "most")) [some (BS (m + 1) br wh)] = some false := by
    refine ev_tst (ev_bin (a := .int ((m + 1 : Nat) : Int)) (b := .int 8) rfl rfl ?_)
    rw [dGt_int, decide_eq_false (by omega)]
  unfold fs_Bounds_count_part mb_Bounds_count_part
  exact ev_runSn (env := [some (BS (m + 1) br wh)]) (y_seq (e1 := [some (BS (m + 1) br wh)]) rfl (y_ifE (b := false) (z_ofE t) rfl)) rfl
theorem count_no {m br : Nat} {wh : Bool} (h : 8 < m + 1) : fs_Bounds_count_part [BS m br wh] [] = some (.inr "NoText") := by
  have t : mTst (mBin dGt (mFld 0 "parts") (mFld 0 "most")) [some (BS (m + 1) br wh)] = some true := by
    refine ev_tst (ev_bin (a := .int ((m + 1 : Nat) : Int)) (b := .int 8) rfl rfl ?_)
    rw [dGt_int, decide_eq_true (by omega)]
  unfold fs_Bounds_count_part mb_Bounds_count_part
  exact ev_runSx (env := [some (BS (m + 1) br wh)]) (y_seq (e1 := [some (BS (m + 1) br wh)]) rfl (y_ifE (b := true) (z_ofE t) rfl))
theorem enter_eq {m br : Nat} {wh : Bool} (h : br + 1 ≤ 20) : fs_Bounds_enter_bracket [BS m br wh] [] = some (.inl (.none, [BS m (br + 1) wh])) := by
  have t : mTst (mBin dGt (mFld 0 "brackets") (mC c_MOST_BRACKETS)) [some (BS m (br + 1) wh)] = some false := by
    refine ev_tst (ev_bin (a := .int ((br + 1 : Nat) : Int)) (b := .int 20) rfl rfl ?_)
    rw [dGt_int, decide_eq_false (by omega)]
  unfold fs_Bounds_enter_bracket mb_Bounds_enter_bracket
  exact ev_runSn (env := [some (BS m (br + 1) wh)]) (y_seq (e1 := [some (BS m (br + 1) wh)]) rfl (y_ifE (b := false) (z_ofE t) rfl)) rfl
theorem leave_eq {m br : Nat} {wh : Bool} : fs_Bounds_leave_bracket [BS m (br + 1) wh] [] = some (.inl (.none, [BS m br wh])) := by
  unfold fs_Bounds_leave_bracket mb_Bounds_leave_bracket
  refine ev_runSn (env := [some (BS m br wh)]) ?_ rfl
  have e : (((br + 1 : Nat) : Int) - 1) = (br : Int) := by omega
  show some (Fy.nx [some (PyData.dict [(.str "most", .int 8), (.str "parts", .int (m : Int)), (.str "pairs", .int 0), (.str "brackets", .int (((br + 1 : Nat) : Int) - 1)), (.str "within_has", .bool wh)])]) = _
  rw [e]
  rfl
theorem enterh_eq {m br : Nat} : fs_Bounds_enter_has [BS m br false] [] = some (.inl (.none, [BS m br true])) := by
  unfold fs_Bounds_enter_has mb_Bounds_enter_has
  exact ev_runSn (env := [some (BS m br true)]) (y_seq (e1 := [some (BS m br false)]) (y_ifE (b := false) (z_ofE rfl) rfl) rfl) rfl
theorem leaveh_eq {m br : Nat} : fs_Bounds_leave_has [BS m br true] [] = some (.inl (.none, [BS m br false])) := by
  unfold fs_Bounds_leave_has mb_Bounds_leave_has
  exact ev_runSn (env := [some (BS m br false)]) rfl rfl
def isNoB (v : Nat) : Bool := match fm_is_name [.str (numW v)] with
  | some (.bool b) => !b
  | _ => false
theorem isNo_all : (List.range 11).all isNoB = true := by decide +kernel
theorem isNo {v : Nat} (h : v ≤ 10) : fm_is_name [.str (numW v)] = some (.bool false) := by
  have := List.all_eq_true.mp isNo_all v (List.mem_range.mpr (by omega))
  unfold isNoB at this
  split at this
  · rename_i b e
    rw [e]
    cases b
    · rfl
    · cases this
  · cases this
theorem signs_sh : ∀ w ∈ ([("mine" : Str), "empty", "loud", "<", "=", "(", ")", "not", "has", "yes", "and", "or"] : List Str), SeqAt.shaped (.str w) = true := by
  intro w hw
  simp only [List.mem_cons, List.not_mem_nil, or_false] at hw
  rcases hw with rfl | rfl | rfl | rfl | rfl | rfl | rfl | rfl | rfl | rfl | rfl | rfl <;> decide +kernel
theorem t_col {env : En} {w : Str} (hw : SeqAt.shaped (.str w) = true) (h : mVar 2 env = some (.str w)) : mTst (mBin (dIn false) (mVar 2) (mTup (mCons (mC (.str "mine")) (mCons (mC (.str "empty")) (mCons (mC (.str "loud")) mNil))))) env = some (decide (w ∈ ([("mine" : Str), "empty", "loud"] : List Str))) := by
  refine ev_tst (ev_bin h (ev_tup (ds := ([("mine" : Str), "empty", "loud"] : List Str).map .str) rfl (line_big (show 3 ≤ 100000 by decide))) ?_)
  rw [dIn_t hw (by intro x hx; exact signs_sh x (by simp only [List.mem_cons, List.not_mem_nil, or_false] at hx ⊢; rcases hx with rfl | rfl | rfl <;> simp)), Bool.false_xor]
theorem t_sgn {env : En} {w z : Str} (hw : SeqAt.shaped (.str w) = true) (hz : SeqAt.shaped (.str z) = true) (h : mVar 2 env = some (.str w)) : mTst (mBin dEq (mVar 2) (mC (.str z))) env = some (decide (w = z)) := ev_tst (ev_bin h rfl (dEq_s hw hz))
theorem t_sgnN {env : En} {w z : Str} (hw : SeqAt.shaped (.str w) = true) (hz : SeqAt.shaped (.str z) = true) (h : mVar 2 env = some (.str w)) : mTst (mBin dNe (mVar 2) (mC (.str z))) env = some (!decide (w = z)) := by
  refine ev_tst (ev_bin h rfl ?_)
  rw [dNe, if_pos ⟨hw, hz⟩, PyData.eqv]
  refine congrArg (fun q => some (PyData.bool q)) ?_
  by_cases q : w = z
  · simp [q]
  · simp [q]
section
variable (ws : List Str) (p : Nat) (h : ws.length ≤ 100000)
include h
theorem about_one {c w : Str} (h0 : ws[p]? = some c) (hc : NmOk c) (h1 : ws[p + 1]? = some w) (hw : w ∈ ([("mine" : Str), "empty", "loud"] : List Str)) : fs_take_about_column [RS ws p] [] = some (.inl (.tuple [.str w, .str c], [RS ws (p + 2)])) := by
  have sw : SeqAt.shaped (.str w) = true := signs_sh w (by simp only [List.mem_cons, List.not_mem_nil, or_false] at hw ⊢; rcases hw with rfl | rfl | rfl <;> simp)
  have a := take_name_eq ws p h h0 hc
  have b := take_eq ws (p + 1) h h1
  unfold fs_take_about_column mb_take_about_column
  have t := t_col (env := [some (RS ws (p + 2)), some (.str c), some (.str w)]) sw rfl
  rw [decide_eq_true hw] at t
  exact ev_runS (env := [some (RS ws (p + 2)), some (.str c), some (.str w)]) (y_seq (e1 := [some (RS ws (p + 1)), some (.str c), none]) (y_asgE (me_eq rfl rfl rfl rfl a)) (y_seq (e1 := [some (RS ws (p + 2)), some (.str c), some (.str w)]) (y_asgE (me_eq rfl rfl rfl rfl b)) (y_seqR (y_ifE (b := true) (z_ofE t) (y_retE (z_ofE (ev_tup (ds := [.str w, .str c]) rfl (line_big (show 2 ≤ 100000 by decide))))))))) rfl
theorem about_les {c : Str} {v : Nat} (h0 : ws[p]? = some c) (hc : NmOk c) (h1 : ws[p + 1]? = some "<") (h2 : ws[p + 2]? = some (numW v)) (hv : v ≤ 10) : fs_take_about_column [RS ws p] [] = some (.inl ((CT.les c v).d, [RS ws (p + 3)])) := by
  have sw : SeqAt.shaped (.str "<") = true := signs_sh _ (by simp)
  have a := take_name_eq ws p h h0 hc
  have b := take_eq ws (p + 1) h h1
  have n := take_number_eq ws (p + 2) h h2 hv (.inr rfl)
  unfold fs_take_about_column mb_take_about_column
  have t := t_col (env := [some (RS ws (p + 2)), some (.str c), some (.str "<")]) sw rfl
  rw [decide_eq_false (by decide +kernel)] at t
  have t2 := t_sgn (env := [some (RS ws (p + 2)), some (.str c), some (.str "<")]) sw sw rfl
  rw [decide_eq_true rfl] at t2
  refine ev_runS (env := [some (RS ws (p + 3)), some (.str c), some (.str "<")]) (y_seq (e1 := [some (RS ws (p + 1)), some (.str c), none]) (y_asgE (me_eq rfl rfl rfl rfl a)) (y_seq (e1 := [some (RS ws (p + 2)), some (.str c), some (.str "<")]) (y_asgE (me_eq rfl rfl rfl rfl b)) (y_seq (e1 := [some (RS ws (p + 2)), some (.str c), some (.str "<")]) (y_ifE (b := false) (z_ofE t) rfl) (y_seqR (y_ifE (b := true) (z_ofE t2) (y_retE (z_tupE (ds := [.str "below", .str c, .int (v : Int)]) (z_consE (e1 := [some (RS ws (p + 2)), some (.str c), some (.str "<")]) rfl (z_consE (e1 := [some (RS ws (p + 2)), some (.str c), some (.str "<")]) rfl (z_consE (e1 := [some (RS ws (p + 3)), some (.str c), some (.str "<")]) (me_eq rfl rfl (z_consE (d := .int ((10 : Nat) : Int)) rfl rfl) rfl n) rfl))) (show 3 ≤ 100 by decide)))))))) rfl
theorem about_eqn {c : Str} {v : Nat} (h0 : ws[p]? = some c) (hc : NmOk c) (h1 : ws[p + 1]? = some "=") (h2 : ws[p + 2]? = some (numW v)) (hv : v ≤ 9) : fs_take_about_column [RS ws p] [] = some (.inl ((CT.eqn c v).d, [RS ws (p + 3)])) := by
  have sw : SeqAt.shaped (.str "=") = true := signs_sh _ (by simp)
  have sl : SeqAt.shaped (.str "<") = true := signs_sh _ (by simp)
  have a := take_name_eq ws p h h0 hc
  have b := take_eq ws (p + 1) h h1
  have ah := ahead_eq ws (p + 2) h
  rw [h2] at ah
  have n := take_number_eq ws (p + 2) h h2 hv (.inl rfl)
  unfold fs_take_about_column mb_take_about_column
  have t := t_col (env := [some (RS ws (p + 2)), some (.str c), some (.str "=")]) sw rfl
  rw [decide_eq_false (by decide +kernel)] at t
  have t2 := t_sgn (env := [some (RS ws (p + 2)), some (.str c), some (.str "=")]) sw sl rfl
  rw [decide_eq_false (by decide +kernel)] at t2
  have t3 := t_sgnN (env := [some (RS ws (p + 2)), some (.str c), some (.str "=")]) sw sw rfl
  rw [decide_eq_true rfl] at t3
  refine ev_runS (env := [some (RS ws (p + 3)), some (.str c), some (.str "=")]) (y_seq (e1 := [some (RS ws (p + 1)), some (.str c), none]) (y_asgE (me_eq rfl rfl rfl rfl a)) (y_seq (e1 := [some (RS ws (p + 2)), some (.str c), some (.str "=")]) (y_asgE (me_eq rfl rfl rfl rfl b)) (y_seq (e1 := [some (RS ws (p + 2)), some (.str c), some (.str "=")]) (y_ifE (b := false) (z_ofE t) rfl) (y_seq (e1 := [some (RS ws (p + 2)), some (.str c), some (.str "=")]) (y_ifE (b := false) (z_ofE t2) rfl) (y_seq (e1 := [some (RS ws (p + 2)), some (.str c), some (.str "=")]) (y_ifE (b := false) (z_ofE t3) rfl)
    (y_seq (e1 := [some (RS ws (p + 2)), some (.str c), some (.str "=")]) (y_ifE (b := false) (z_truE (d := .bool false) (z_dataE (e1 := [some (RS ws (p + 2)), some (.str c), some (.str "=")]) (ds := [.str (numW v)]) (z_consE (e1 := [some (RS ws (p + 2)), some (.str c), some (.str "=")]) (me_eq rfl rfl rfl rfl ah) rfl) rfl (isNo (by omega))) rfl) rfl)
      (y_retE (z_tupE (ds := [.str "is", .str c, .int (v : Int)]) (z_consE (e1 := [some (RS ws (p + 2)), some (.str c), some (.str "=")]) rfl (z_consE (e1 := [some (RS ws (p + 2)), some (.str c), some (.str "=")]) rfl (z_consE (e1 := [some (RS ws (p + 3)), some (.str c), some (.str "=")]) (me_eq rfl rfl (z_consE (d := .int ((9 : Nat) : Int)) rfl rfl) rfl n) rfl))) (show 3 ≤ 100 by decide))))))))) rfl
theorem about_same {c o : Str} (h0 : ws[p]? = some c) (hc : NmOk c) (h1 : ws[p + 1]? = some "=") (h2 : ws[p + 2]? = some o) (ho : NmOk o) : fs_take_about_column [RS ws p] [] = some (.inl ((CT.same c o).d, [RS ws (p + 3)])) := by
  have sw : SeqAt.shaped (.str "=") = true := signs_sh _ (by simp)
  have sl : SeqAt.shaped (.str "<") = true := signs_sh _ (by simp)
  have a := take_name_eq ws p h h0 hc
  have b := take_eq ws (p + 1) h h1
  have ah := ahead_eq ws (p + 2) h
  rw [h2] at ah
  have n := take_name_eq ws (p + 2) h h2 ho
  unfold fs_take_about_column mb_take_about_column
  have t := t_col (env := [some (RS ws (p + 2)), some (.str c), some (.str "=")]) sw rfl
  rw [decide_eq_false (by decide +kernel)] at t
  have t2 := t_sgn (env := [some (RS ws (p + 2)), some (.str c), some (.str "=")]) sw sl rfl
  rw [decide_eq_false (by decide +kernel)] at t2
  have t3 := t_sgnN (env := [some (RS ws (p + 2)), some (.str c), some (.str "=")]) sw sw rfl
  rw [decide_eq_true rfl] at t3
  refine ev_runS (env := [some (RS ws (p + 3)), some (.str c), some (.str "=")]) (y_seq (e1 := [some (RS ws (p + 1)), some (.str c), none]) (y_asgE (me_eq rfl rfl rfl rfl a)) (y_seq (e1 := [some (RS ws (p + 2)), some (.str c), some (.str "=")]) (y_asgE (me_eq rfl rfl rfl rfl b)) (y_seq (e1 := [some (RS ws (p + 2)), some (.str c), some (.str "=")]) (y_ifE (b := false) (z_ofE t) rfl) (y_seq (e1 := [some (RS ws (p + 2)), some (.str c), some (.str "=")]) (y_ifE (b := false) (z_ofE t2) rfl) (y_seq (e1 := [some (RS ws (p + 2)), some (.str c), some (.str "=")]) (y_ifE (b := false) (z_ofE t3) rfl)
    (y_seqR (y_ifE (b := true) (z_truE (d := .bool true) (z_dataE (e1 := [some (RS ws (p + 2)), some (.str c), some (.str "=")]) (ds := [.str o]) (z_consE (e1 := [some (RS ws (p + 2)), some (.str c), some (.str "=")]) (me_eq rfl rfl rfl rfl ah) rfl) rfl (is_name_ok ho)) rfl)
      (y_retE (z_tupE (ds := [.str "same", .str c, .str o]) (z_consE (e1 := [some (RS ws (p + 2)), some (.str c), some (.str "=")]) rfl (z_consE (e1 := [some (RS ws (p + 2)), some (.str c), some (.str "=")]) rfl (z_consE (e1 := [some (RS ws (p + 3)), some (.str c), some (.str "=")]) (me_eq rfl rfl rfl rfl n) rfl))) (show 3 ≤ 100 by decide)))))))))) rfl
end
def Pre (W : List Str) (p : Nat) (us : List Str) : Prop := ∃ r, W.drop p = us ++ r
theorem Pre.head {W : List Str} {p : Nat} {w : Str} {us : List Str} (h : Pre W p (w :: us)) : W[p]? = some w ∧ Pre W (p + 1) us := by
  obtain ⟨r, e⟩ := h
  refine ⟨?_, r, ?_⟩
  · have := congrArg (fun l : List Str => l[0]?) e
    simpa using this
  · have := congrArg (fun l : List Str => l.drop 1) e
    rw [List.drop_drop] at this
    simpa using this
theorem Pre.app {W : List Str} {p : Nat} {a b : List Str} (h : Pre W p (a ++ b)) : Pre W p a ∧ Pre W (p + a.length) b := by
  obtain ⟨r, e⟩ := h
  rw [List.append_assoc] at e
  refine ⟨⟨_, e⟩, r, ?_⟩
  have := congrArg (fun l : List Str => l.drop a.length) e
  rw [List.drop_drop] at this
  simpa using this
theorem NmOk.ne {w z : Str} (h : NmOk w) (hz : z ∈ barL) : w ≠ z := fun e => h.free (e ▸ hz)
theorem NmOk.ne_br {w : Str} (h : NmOk w) : w ≠ "(" := fun e => by
  obtain ⟨cs, rfl, h1, h2, h3⟩ := h.cs
  have : (mkS cs).cps.toList = [40] := by
    rw [e]
    decide +kernel
  have k : (mkS cs).cps.toList = cs := rfl
  rw [k] at this
  have := h3 40 (by rw [this]; simp)
  unfold Lc at this
  omega
/-- takes, in any frame whose slot 0 holds the reader -/
theorem tk_yes {W : List Str} {p : Nat} (h : W.length ≤ 100000) (sh : ∀ w ∈ W, SeqAt.shaped (.str w) = true) {w : Str} {x : Option PyData} {r : En} {arg : En → Option PyData} (hw : W[p]? = some w) (ha : arg (some (RS W p) :: r) = some (.str w)) :
    mTruZ (mMeth "takes" 0 0 1 fs_Reader_takes (mConsZ (zOf arg) mNilZ)) (some (RS W p) :: r) = some (.val true (some (RS W (p + 1)) :: r)) := by
  have a := takes_eq W p h sh (w := w) (sh w (List.mem_of_getElem? hw))
  rw [if_pos hw, decide_eq_true hw] at a
  exact z_truE (d := .bool true) (me_eq rfl rfl (z_consE (d := .str w) (z_ofE ha) rfl) rfl a) rfl
theorem tk_no {W : List Str} {p : Nat} (h : W.length ≤ 100000) (sh : ∀ w ∈ W, SeqAt.shaped (.str w) = true) {w : Str} {r : En} {arg : En → Option PyData} (hs : SeqAt.shaped (.str w) = true) (hw : W[p]? ≠ some w) (ha : arg (some (RS W p) :: r) = some (.str w)) :
    mTruZ (mMeth "takes" 0 0 1 fs_Reader_takes (mConsZ (zOf arg) mNilZ)) (some (RS W p) :: r) = some (.val false (some (RS W p) :: r)) := by
  have a := takes_eq W p h sh (w := w) hs
  rw [if_neg hw, decide_eq_false hw] at a
  exact z_truE (d := .bool false) (me_eq rfl rfl (z_consE (d := .str w) (z_ofE ha) rfl) rfl a) rfl
/-- a call with both instances, slots 0 and 1 -/
theorem cs_eq {fn : List PyData → List PyData → Option ((PyData × List PyData) ⊕ Str)} {s b s' b' d : PyData} {r : En} (hf : fn [s, b] [] = some (.inl (d, [s', b']))) : mCS [(0, 0), (1, 1)] 0 fn mNilZ (some s :: some b :: r) = some (.val d (some s' :: some b' :: r)) := by
  have g : getS [(0, 0), (1, 1)] (some s :: some b :: r) = some [s, b] := rfl
  unfold mCS
  rw [g, Option.bind_some, zb (d := []) (e1 := some s :: some b :: r) rfl]
  show (if ([] : List PyData).length = 0 then _ else _) = _
  rw [if_pos (show ([] : List PyData).length = 0 from rfl), g, Option.bind_some]
  rw [hf]
  rfl
theorem cs_no {fn : List PyData → List PyData → Option ((PyData × List PyData) ⊕ Str)} {s b : PyData} {r : En} {x : Str} (hf : fn [s, b] [] = some (.inr x)) : mCS [(0, 0), (1, 1)] 0 fn mNilZ (some s :: some b :: r) = some (.xc x (none :: none :: r)) := by
  have g : getS [(0, 0), (1, 1)] (some s :: some b :: r) = some [s, b] := rfl
  unfold mCS
  rw [g, Option.bind_some, zb (d := []) (e1 := some s :: some b :: r) rfl]
  show (if ([] : List PyData).length = 0 then _ else _) = _
  rw [if_pos (show ([] : List PyData).length = 0 from rfl), g, Option.bind_some]
  rw [hf]
  rfl
/-- count_part and the like, slot 1 -/
theorem mb_eq {m : Str} {fn : List PyData → List PyData → Option ((PyData × List PyData) ⊕ Str)} {s b' d : PyData} {k br : Nat} {wh : Bool} {r : En} (hn : hasNo m 1 (some s :: some (BS k br wh) :: r) = true) (hf : fn [BS k br wh] [] = some (.inl (d, [b']))) : mMeth m 1 1 0 fn mNilZ (some s :: some (BS k br wh) :: r) = some (.val d (some s :: some b' :: r)) := me_eq hn rfl rfl rfl hf
theorem mb_no {m : Str} {fn : List PyData → List PyData → Option ((PyData × List PyData) ⊕ Str)} {s : PyData} {k br : Nat} {wh : Bool} {r : En} {x : Str} (hn : hasNo m 1 (some s :: some (BS k br wh) :: r) = true) (hf : fn [BS k br wh] [] = some (.inr x)) : mMeth m 1 1 0 fn mNilZ (some s :: some (BS k br wh) :: r) = some (.xc x (some s :: none :: r)) := by
  unfold mMeth
  rw [if_pos hn]
  have g : getS [(1, 1)] (some s :: some (BS k br wh) :: r) = some [BS k br wh] := rfl
  unfold mCS
  rw [g, Option.bind_some, zb (d := []) (e1 := some s :: some (BS k br wh) :: r) rfl]
  show (if ([] : List PyData).length = 0 then _ else _) = _
  rw [if_pos (show ([] : List PyData).length = 0 from rfl), g, Option.bind_some]
  rw [hf]
  rfl
section
variable {mt : En → Option (Zx Bool)} {mb : En → Option Fy} {k : Nat} {env e1 e2 : En} {x : Str}
theorem while_no (h : mt env = some (.val false e1)) : whileY mt mb (k + 1) env = some (.nx e1) := by
  show (mt env).bind _ = _
  rw [h]
  rfl
theorem while_yes (h : mt env = some (.val true e1)) (h2 : mb e1 = some (.nx e2)) : whileY mt mb (k + 1) env = whileY mt mb k e2 := by
  show (mt env).bind _ = _
  rw [h]
  show ((mb e1).bind _) = _
  rw [h2]
  rfl
theorem while_yesX (h : mt env = some (.val true e1)) (h2 : mb e1 = some (.xc x e2)) : whileY mt mb (k + 1) env = some (.xc x e2) := by
  show (mt env).bind _ = _
  rw [h]
  show ((mb e1).bind _) = _
  rw [h2]
  rfl
end
theorem zbX {α β : Type} {m : En → Option (Zx α)} {g : α → En → Option (Zx β)} {env e1 : En} {x : Str} (h : m env = some (.xc x e1)) : zBind m g env = some (.xc x e1) := by
  unfold zBind
  rw [h]
  rfl
theorem z_consX1 {m : En → Option (Zx PyData)} {ms : En → Option (Zx (List PyData))} {env e1 : En} {x : Str} (h : m env = some (.xc x e1)) : mConsZ m ms env = some (.xc x e1) := by
  unfold mConsZ
  exact zbX h
theorem z_consX2 {m : En → Option (Zx PyData)} {ms : En → Option (Zx (List PyData))} {env e1 e2 : En} {d : PyData} {x : Str} (h : m env = some (.val d e1)) (h2 : ms e1 = some (.xc x e2)) : mConsZ m ms env = some (.xc x e2) := by
  unfold mConsZ
  rw [zb h]
  exact zbX h2
theorem z_tupX {ms : En → Option (Zx (List PyData))} {env e1 : En} {x : Str} (h : ms env = some (.xc x e1)) : mTupZ ms env = some (.xc x e1) := by
  unfold mTupZ
  exact zbX h
abbrev StF := List PyData → List PyData → Option ((PyData × List PyData) ⊕ Str)
def tkW (wd : Str) : En → Option (Zx Bool) := mTruZ (mMeth "takes" 0 0 1 fs_Reader_takes (mConsZ (zOf (mC (.str wd))) mNilZ))
def bdW (wd : Str) (fn : StF) : En → Option Fy := mSeqY (mExprY (mMeth "count_part" 1 1 0 fs_Bounds_count_part mNilZ)) (mAsgY (mTupZ (mConsZ (zOf (mC (.str wd))) (mConsZ (zOf (mVar 2)) (mConsZ (mCS [(0, 0), (1, 1)] 0 fn mNilZ) mNilZ)))) 2)
def goW (wd : Str) (fn : StF) (k : Nat) : En → Option Fy := mSeqY (whileY (tkW wd) (bdW wd fn) k) (mRetY (zOf (mVar 2)))
def mbW (wd : Str) (fn : StF) : En → Option Fy := mSeqY (mAsgY (mCS [(0, 0), (1, 1)] 0 fn mNilZ) 2) (goW wd fn 12)
theorem and_is (fn : StF) : fs_take_and fn = runS 3 [0, 1] (mbW "and" fn) := rfl
theorem or_is (fn : StF) : fs_take_or fn = runS 3 [0, 1] (mbW "or" (fs_take_and fn)) := rfl
structure Res (W : List Str) (r : Option ((PyData × List PyData) ⊕ Str)) (c : CT) (p len m br : Nat) (wh : Bool) : Prop where
  ok : m + c.parts ≤ 8 → r = some (.inl (c.d, [RS W (p + len), BS (m + c.parts) br wh]))
  no : m ≤ 8 → 8 < m + c.parts → r = some (.inr "NoText")
structure Lop (W : List Str) (wd : Str) (fn : StF) (c : CT) (p len m br : Nat) (wh : Bool) : Prop where
  ok : m + c.parts ≤ 8 → ∃ j, j ≤ c.parts ∧ mbW wd fn [some (RS W p), some (BS m br wh), none] = goW wd fn (12 - j) [some (RS W (p + len)), some (BS (m + c.parts) br wh), some c.d]
  no : m ≤ 8 → 8 < m + c.parts → ∃ e, mbW wd fn [some (RS W p), some (BS m br wh), none] = some (.xc "NoText" e)
section
variable {W : List Str} (h : W.length ≤ 100000) (sh : ∀ w ∈ W, SeqAt.shaped (.str w) = true) {wd : Str} {fn : StF} {p len m br : Nat} {wh : Bool} {c a b : CT}
theorem lop_first (r : Res W (fn [RS W p, BS m br wh] []) c p len m br wh) : Lop W wd fn c p len m br wh where
  ok := fun z => ⟨0, Nat.zero_le _, y_seq (e1 := [some (RS W (p + len)), some (BS (m + c.parts) br wh), some c.d]) (y_asgE (cs_eq (r := [none]) (r.ok z))) rfl⟩
  no := fun z1 z2 => ⟨_, y_seqX (y_asgX (cs_no (r := [none]) (r.no z1 z2)))⟩
include h sh
theorem go_end {q k : Nat} {y x : PyData} (hs : SeqAt.shaped (.str wd) = true) (hw : W[q]? ≠ some wd) : goW wd fn (k + 1) [some (RS W q), some y, some x] = some (.rt x [some (RS W q), some y, some x]) := by
  unfold goW
  exact y_seq (while_no (tk_no h sh hs hw rfl)) (y_retE (z_ofE rfl))
theorem go_step {q k : Nat} {x y s' b' : PyData} (hw : W[q]? = some wd) (hm : m + 1 ≤ 8) (hf : fn [RS W (q + 1), BS (m + 1) br wh] [] = some (.inl (y, [s', b']))) : goW wd fn (k + 1) [some (RS W q), some (BS m br wh), some x] = goW wd fn k [some s', some b', some (.tuple [.str wd, x, y])] := by
  have body : bdW wd fn [some (RS W (q + 1)), some (BS m br wh), some x] = some (.nx [some s', some b', some (.tuple [.str wd, x, y])]) := by
    unfold bdW
    refine y_seq (e1 := [some (RS W (q + 1)), some (BS (m + 1) br wh), some x]) (y_expE (mb_eq (r := [some x]) rfl (count_eq hm))) ?_
    exact y_asgE (e1 := [some s', some b', some x]) (z_tupE (ds := [.str wd, x, y]) (z_consE (e1 := [some (RS W (q + 1)), some (BS (m + 1) br wh), some x]) rfl (z_consE (e1 := [some (RS W (q + 1)), some (BS (m + 1) br wh), some x]) rfl (z_consE (e1 := [some s', some b', some x]) (cs_eq (r := [some x]) hf) rfl))) (show 3 ≤ 100 by decide))
  have w1 := while_yes (mt := tkW wd) (k := k) (tk_yes (x := none) h sh hw rfl) body
  unfold goW mSeqY
  rw [w1]
theorem go_cnt {q k : Nat} {x : PyData} (hw : W[q]? = some wd) (hm : 8 < m + 1) : ∃ e, goW wd fn (k + 1) [some (RS W q), some (BS m br wh), some x] = some (.xc "NoText" e) := by
  have body : ∃ e, bdW wd fn [some (RS W (q + 1)), some (BS m br wh), some x] = some (.xc "NoText" e) := by
    unfold bdW
    exact ⟨_, y_seqX (y_expX (mb_no (r := [some x]) rfl (count_no hm)))⟩
  obtain ⟨e, body⟩ := body
  exact ⟨e, y_seqX (while_yesX (tk_yes (x := none) h sh hw rfl) body)⟩
theorem go_err {q k : Nat} {x : PyData} {z : Str} (hw : W[q]? = some wd) (hm : m + 1 ≤ 8) (hf : fn [RS W (q + 1), BS (m + 1) br wh] [] = some (.inr z)) : ∃ e, goW wd fn (k + 1) [some (RS W q), some (BS m br wh), some x] = some (.xc z e) := by
  have body : ∃ e, bdW wd fn [some (RS W (q + 1)), some (BS m br wh), some x] = some (.xc z e) := by
    unfold bdW
    refine ⟨[none, none, some x], y_seq (e1 := [some (RS W (q + 1)), some (BS (m + 1) br wh), some x]) (y_expE (mb_eq (r := [some x]) rfl (count_eq hm))) (y_asgX ?_)⟩
    exact z_tupX (z_consX2 (d := .str wd) (e1 := [some (RS W (q + 1)), some (BS (m + 1) br wh), some x]) rfl (z_consX2 (d := x) (e1 := [some (RS W (q + 1)), some (BS (m + 1) br wh), some x]) rfl (z_consX1 (cs_no (r := [some x]) hf))))
  obtain ⟨e, body⟩ := body
  exact ⟨e, y_seqX (while_yesX (tk_yes (x := none) h sh hw rfl) body)⟩
theorem lop_step {la lb : Nat} (l : Lop W wd fn a p la m br wh) (hw : W[p + la]? = some wd) (r : Res W (fn [RS W (p + la + 1), BS (m + a.parts + 1) br wh] []) b (p + la + 1) lb (m + a.parts + 1) br wh) (hd : c.d = .tuple [.str wd, a.d, b.d]) (hp : c.parts = a.parts + b.parts + 1) : Lop W wd fn c p (la + 1 + lb) m br wh where
  ok := fun z => by
    obtain ⟨j, hj, e⟩ := l.ok (by omega)
    have ro := r.ok (by omega)
    refine ⟨j + 1, by omega, ?_⟩
    rw [e, show 12 - j = (12 - (j + 1)) + 1 by omega, go_step h sh hw (by omega) ro, hd, show p + la + 1 + lb = p + (la + 1 + lb) by omega, show m + a.parts + 1 + b.parts = m + c.parts by omega]
  no := fun z1 z2 => by
    by_cases q : m + a.parts ≤ 8
    · obtain ⟨j, hj, e⟩ := l.ok q
      rw [e, show 12 - j = (12 - (j + 1)) + 1 by omega]
      by_cases q2 : m + a.parts + 1 ≤ 8
      · exact go_err h sh hw q2 (r.no q2 (by omega))
      · exact go_cnt h sh hw (by omega)
    · exact l.no z1 (by omega)
theorem lop_end (l : Lop W wd fn c p len m br wh) (hs : SeqAt.shaped (.str wd) = true) (hw : W[p + len]? ≠ some wd) : Res W (runS 3 [0, 1] (mbW wd fn) [RS W p, BS m br wh] []) c p len m br wh where
  ok := fun z => by
    obtain ⟨j, hj, e⟩ := l.ok z
    rw [show 12 - j = (11 - j) + 1 by omega, go_end h sh hs hw] at e
    exact ev_runS (env := [some (RS W (p + len)), some (BS (m + c.parts) br wh), some c.d]) e rfl
  no := fun z1 z2 => by
    obtain ⟨e, q⟩ := l.no z1 z2
    exact ev_runSx (env := e) q
end
section
variable {W : List Str} (h : W.length ≤ 100000) (sh : ∀ w ∈ W, SeqAt.shaped (.str w) = true) {fn : StF} {p len m br : Nat} {wh : Bool} {c a b : CT}
include h sh
theorem tt_eq {q : Nat} {w : Str} {r : En} {arg : En → Option PyData} (hw : W[q]? = some w) (ha : arg (some (RS W q) :: r) = some (.str w)) : mMeth "take_this" 0 0 1 fs_Reader_take_this (mConsZ (zOf arg) mNilZ) (some (RS W q) :: r) = some (.val .none (some (RS W (q + 1)) :: r)) :=
  me_eq rfl rfl (z_consE (d := .str w) (z_ofE ha) rfl) rfl (take_this_eq W q h sh hw)
theorem br_res {q : Nat} (r : Res W (fs_take_or fn [RS W q, BS m (br + 1) wh] []) c q len m (br + 1) wh) (hw : W[q + len]? = some ")") (hb : br + 1 ≤ 20) : Res W (fs_take_bracket fn [RS W q, BS m br wh] []) c q (len + 1) m br wh where
  ok := fun z => by
    unfold fs_take_bracket mb_take_bracket
    refine ev_runS (env := [some (RS W (q + (len + 1))), some (BS (m + c.parts) br wh), some c.d]) ?_ rfl
    refine y_seq (e1 := [some (RS W q), some (BS m (br + 1) wh), none]) (y_expE (mb_eq (r := [none]) rfl (enter_eq hb))) ?_
    refine y_seq (e1 := [some (RS W (q + len)), some (BS (m + c.parts) (br + 1) wh), some c.d]) (y_asgE (cs_eq (r := [none]) (r.ok z))) ?_
    refine y_seq (e1 := [some (RS W (q + len + 1)), some (BS (m + c.parts) (br + 1) wh), some c.d]) (y_expE (tt_eq h sh hw rfl)) ?_
    refine y_seq (e1 := [some (RS W (q + len + 1)), some (BS (m + c.parts) br wh), some c.d]) (y_expE (mb_eq (r := [some c.d]) rfl leave_eq)) ?_
    exact y_retE (z_ofE rfl)
  no := fun z1 z2 => by
    unfold fs_take_bracket mb_take_bracket
    refine ev_runSx (env := [none, none, none]) ?_
    refine y_seq (e1 := [some (RS W q), some (BS m (br + 1) wh), none]) (y_expE (mb_eq (r := [none]) rfl (enter_eq hb))) ?_
    exact y_seqX (y_asgX (cs_no (r := [none]) (r.no z1 z2)))
theorem has_res {q : Nat} {t x y : Str} (h0 : W[q]? = some t) (k0 : NmOk t) (h1 : W[q + 1]? = some x) (k1 : NmOk x) (h2 : W[q + 2]? = some y) (k2 : NmOk y) (h3 : W[q + 3]? = some "(") (r : Res W (fs_take_or fn [RS W (q + 4), BS m br true] []) a (q + 4) len m br true) (hw : W[q + 4 + len]? = some ")") :
    (m + a.parts ≤ 8 → fs_take_has fn [RS W q, BS m br false] [] = some (.inl ((CT.has t x y a).d, [RS W (q + (len + 5)), BS (m + a.parts) br false]))) ∧ (m ≤ 8 → 8 < m + a.parts → fs_take_has fn [RS W q, BS m br false] [] = some (.inr "NoText")) := by
  have b0 := take_name_eq W q h h0 k0
  have b1 := take_name_eq W (q + 1) h h1 k1
  have b2 := take_name_eq W (q + 2) h h2 k2
  refine ⟨fun z => ?_, fun z1 z2 => ?_⟩
  · unfold fs_take_has mb_take_has
    refine ev_runS (env := [some (RS W (q + (len + 5))), some (BS (m + a.parts) br false), some (.str t), some (.str x), some (.str y), some a.d]) ?_ rfl
    refine y_seq (e1 := [some (RS W q), some (BS m br true), none, none, none, none]) (y_expE (mb_eq (r := [none, none, none, none]) rfl enterh_eq)) ?_
    refine y_seq (e1 := [some (RS W (q + 1)), some (BS m br true), some (.str t), none, none, none]) (y_asgE (me_eq rfl rfl rfl rfl b0)) ?_
    refine y_seq (e1 := [some (RS W (q + 2)), some (BS m br true), some (.str t), some (.str x), none, none]) (y_asgE (me_eq rfl rfl rfl rfl b1)) ?_
    refine y_seq (e1 := [some (RS W (q + 3)), some (BS m br true), some (.str t), some (.str x), some (.str y), none]) (y_asgE (me_eq rfl rfl rfl rfl b2)) ?_
    refine y_seq (e1 := [some (RS W (q + 4)), some (BS m br true), some (.str t), some (.str x), some (.str y), none]) (y_expE (tt_eq h sh h3 rfl)) ?_
    refine y_seq (e1 := [some (RS W (q + 4 + len)), some (BS (m + a.parts) br true), some (.str t), some (.str x), some (.str y), some a.d]) (y_asgE (cs_eq (r := [some (.str t), some (.str x), some (.str y), none]) (r.ok z))) ?_
    refine y_seq (e1 := [some (RS W (q + 4 + len + 1)), some (BS (m + a.parts) br true), some (.str t), some (.str x), some (.str y), some a.d]) (y_expE (tt_eq h sh hw rfl)) ?_
    refine y_seq (e1 := [some (RS W (q + 4 + len + 1)), some (BS (m + a.parts) br false), some (.str t), some (.str x), some (.str y), some a.d]) (y_expE (mb_eq (r := [some (.str t), some (.str x), some (.str y), some a.d]) rfl leaveh_eq)) ?_
    rw [show q + (len + 5) = q + 4 + len + 1 by omega]
    exact y_retE (z_ofE (ev_tup (ds := [.str "has", .str t, .str x, .str y, a.d]) rfl (line_big (show 5 ≤ 100000 by decide))))
  · unfold fs_take_has mb_take_has
    refine ev_runSx (env := [none, none, some (.str t), some (.str x), some (.str y), none]) ?_
    refine y_seq (e1 := [some (RS W q), some (BS m br true), none, none, none, none]) (y_expE (mb_eq (r := [none, none, none, none]) rfl enterh_eq)) ?_
    refine y_seq (e1 := [some (RS W (q + 1)), some (BS m br true), some (.str t), none, none, none]) (y_asgE (me_eq rfl rfl rfl rfl b0)) ?_
    refine y_seq (e1 := [some (RS W (q + 2)), some (BS m br true), some (.str t), some (.str x), none, none]) (y_asgE (me_eq rfl rfl rfl rfl b1)) ?_
    refine y_seq (e1 := [some (RS W (q + 3)), some (BS m br true), some (.str t), some (.str x), some (.str y), none]) (y_asgE (me_eq rfl rfl rfl rfl b2)) ?_
    refine y_seq (e1 := [some (RS W (q + 4)), some (BS m br true), some (.str t), some (.str x), some (.str y), none]) (y_expE (tt_eq h sh h3 rfl)) ?_
    exact y_seqX (y_asgX (cs_no (r := [some (.str t), some (.str x), some (.str y), none]) (r.no z1 z2)))
variable {n : Nat}
theorem alone_br (hw : W[p]? = some "(") (r : Res W (fs_take_bracket (fs_take_alone n) [RS W (p + 1), BS m br wh] []) c (p + 1) len m br wh) : Res W (fs_take_alone (n + 1) [RS W p, BS m br wh] []) c p (len + 1) m br wh where
  ok := fun z => by
    show runS 2 [0, 1] (mb_take_alone (fs_take_alone n)) _ _ = _
    unfold mb_take_alone
    rw [show p + (len + 1) = p + 1 + len by omega]
    exact ev_runS (env := [some (RS W (p + 1 + len)), some (BS (m + c.parts) br wh)]) (y_seqR (y_ifE (b := true) (tk_yes (x := none) h sh hw rfl) (y_retE (cs_eq (r := []) (r.ok z))))) rfl
  no := fun z1 z2 => by
    show runS 2 [0, 1] (mb_take_alone (fs_take_alone n)) _ _ = _
    unfold mb_take_alone
    exact ev_runSx (env := [none, none]) (y_seqX (y_ifE (b := true) (tk_yes (x := none) h sh hw rfl) (y_retX (cs_no (r := []) (r.no z1 z2)))))
/-- a word that is no bracket: first it is counted -/
theorem alone_cnt (hw : W[p]? ≠ some "(") (hm : 8 < m + 1) : fs_take_alone (n + 1) [RS W p, BS m br wh] [] = some (.inr "NoText") := by
  show runS 2 [0, 1] (mb_take_alone (fs_take_alone n)) _ _ = _
  unfold mb_take_alone
  exact ev_runSx (env := [some (RS W p), none]) (y_seq (e1 := [some (RS W p), some (BS m br wh)]) (y_ifE (b := false) (tk_no h sh (signs_sh _ (by simp)) hw rfl) rfl) (y_seqX (y_expX (mb_no (r := []) rfl (count_no hm)))))
theorem alone_not (hw : W[p]? = some "not") (r : Res W (fs_take_alone n [RS W (p + 1), BS (m + 1) br wh] []) a (p + 1) len (m + 1) br wh) : Res W (fs_take_alone (n + 1) [RS W p, BS m br wh] []) (.neg a) p (len + 1) m br wh where
  ok := fun z => by
    have z : m + (a.parts + 1) ≤ 8 := z
    show runS 2 [0, 1] (mb_take_alone (fs_take_alone n)) _ _ = _
    unfold mb_take_alone
    rw [show p + (len + 1) = p + 1 + len by omega, show m + (CT.neg a).parts = m + 1 + a.parts by simp only [CT.parts]; omega]
    refine ev_runS (env := [some (RS W (p + 1 + len)), some (BS (m + 1 + a.parts) br wh)]) (y_seq (e1 := [some (RS W p), some (BS m br wh)]) (y_ifE (b := false) (tk_no h sh (signs_sh _ (by simp)) (by rw [hw]; decide +kernel) rfl) rfl) (y_seq (e1 := [some (RS W p), some (BS (m + 1) br wh)]) (y_expE (mb_eq (r := []) rfl (count_eq (by omega)))) (y_seqR (y_ifE (b := true) (tk_yes (x := none) h sh hw rfl) (y_retE (z_tupE (ds := [.str "not", a.d]) (z_consE (e1 := [some (RS W (p + 1)), some (BS (m + 1) br wh)]) rfl (z_consE (cs_eq (r := []) (r.ok (by omega))) rfl)) (show 2 ≤ 100 by decide))))))) rfl
  no := fun z1 z2 => by
    have z2 : 8 < m + (a.parts + 1) := z2
    by_cases q : 8 < m + 1
    · exact alone_cnt h sh (by rw [hw]; decide +kernel) q
    · show runS 2 [0, 1] (mb_take_alone (fs_take_alone n)) _ _ = _
      unfold mb_take_alone
      exact ev_runSx (env := [none, none]) (y_seq (e1 := [some (RS W p), some (BS m br wh)]) (y_ifE (b := false) (tk_no h sh (signs_sh _ (by simp)) (by rw [hw]; decide +kernel) rfl) rfl) (y_seq (e1 := [some (RS W p), some (BS (m + 1) br wh)]) (y_expE (mb_eq (r := []) rfl (count_eq (by omega)))) (y_seqX (y_ifE (b := true) (tk_yes (x := none) h sh hw rfl) (y_retX (z_tupX (z_consX2 (e1 := [some (RS W (p + 1)), some (BS (m + 1) br wh)]) rfl (z_consX1 (cs_no (r := []) (r.no (by omega) (by omega)))))))))))
end
section
variable {W : List Str} (h : W.length ≤ 100000) (sh : ∀ w ∈ W, SeqAt.shaped (.str w) = true) {p len m br n : Nat} {wh : Bool} {c a b : CT}
include h sh
theorem al_pre {r : Option Fy} (hb : W[p]? ≠ some "(") (hn : W[p]? ≠ some "not") (hm : m + 1 ≤ 8)
    (h2 : mSeqY (mIfY (mTruZ (mMeth "takes" 0 0 1 fs_Reader_takes (mConsZ (zOf (mC (.str "has"))) mNilZ))) (mRetY (mCS [(0, 0), (1, 1)] 0 (fs_take_has (fs_take_alone n)) mNilZ)) (fun env => some (.nx env)))
      (mSeqY (mIfY (mTruZ (mMeth "takes" 0 0 1 fs_Reader_takes (mConsZ (zOf (mC (.str "yes"))) mNilZ))) (mRetY (zOf (mTup (mCons (mC (.str "yes")) mNil)))) (fun env => some (.nx env))) (mRetY (mCS [(0, 0)] 0 fs_take_about_column mNilZ))) [some (RS W p), some (BS (m + 1) br wh)] = r) : mb_take_alone (fs_take_alone n) [some (RS W p), some (BS m br wh)] = r := by
  unfold mb_take_alone
  refine y_seq (e1 := [some (RS W p), some (BS m br wh)]) (y_ifE (b := false) (tk_no h sh (signs_sh _ (by simp)) hb rfl) rfl) ?_
  refine y_seq (e1 := [some (RS W p), some (BS (m + 1) br wh)]) (y_expE (mb_eq (r := []) rfl (count_eq hm))) ?_
  exact y_seq (e1 := [some (RS W p), some (BS (m + 1) br wh)]) (y_ifE (b := false) (tk_no h sh (signs_sh _ (by simp)) hn rfl) rfl) h2
theorem alone_has {t x y : Str} (hw : W[p]? = some "has") (r : (m + 1 + a.parts ≤ 8 → fs_take_has (fs_take_alone n) [RS W (p + 1), BS (m + 1) br wh] [] = some (.inl ((CT.has t x y a).d, [RS W (p + 1 + len), BS (m + 1 + a.parts) br wh]))) ∧ (m + 1 ≤ 8 → 8 < m + 1 + a.parts → fs_take_has (fs_take_alone n) [RS W (p + 1), BS (m + 1) br wh] [] = some (.inr "NoText"))) : Res W (fs_take_alone (n + 1) [RS W p, BS m br wh] []) (.has t x y a) p (len + 1) m br wh where
  ok := fun z => by
    have z : m + (a.parts + 1) ≤ 8 := z
    show runS 2 [0, 1] (mb_take_alone (fs_take_alone n)) _ _ = _
    rw [show p + (len + 1) = p + 1 + len by omega, show m + (CT.has t x y a).parts = m + 1 + a.parts by simp only [CT.parts]; omega]
    exact ev_runS (env := [some (RS W (p + 1 + len)), some (BS (m + 1 + a.parts) br wh)]) (al_pre h sh (by rw [hw]; decide +kernel) (by rw [hw]; decide +kernel) (by omega) (y_seqR (y_ifE (b := true) (tk_yes (x := none) h sh hw rfl) (y_retE (cs_eq (r := []) (r.1 (by omega))))))) rfl
  no := fun z1 z2 => by
    have z2 : 8 < m + (a.parts + 1) := z2
    by_cases q : 8 < m + 1
    · exact alone_cnt h sh (by rw [hw]; decide +kernel) q
    · show runS 2 [0, 1] (mb_take_alone (fs_take_alone n)) _ _ = _
      exact ev_runSx (env := [none, none]) (al_pre h sh (by rw [hw]; decide +kernel) (by rw [hw]; decide +kernel) (by omega) (y_seqX (y_ifE (b := true) (tk_yes (x := none) h sh hw rfl) (y_retX (cs_no (r := []) (r.2 (by omega) (by omega)))))))
theorem alone_yes (hw : W[p]? = some "yes") : Res W (fs_take_alone (n + 1) [RS W p, BS m br wh] []) .yes p 1 m br wh where
  ok := fun z => by
    have z : m + 1 ≤ 8 := z
    show runS 2 [0, 1] (mb_take_alone (fs_take_alone n)) _ _ = _
    exact ev_runS (env := [some (RS W (p + 1)), some (BS (m + 1) br wh)]) (al_pre h sh (by rw [hw]; decide +kernel) (by rw [hw]; decide +kernel) z (y_seq (e1 := [some (RS W p), some (BS (m + 1) br wh)]) (y_ifE (b := false) (tk_no h sh (signs_sh _ (by simp)) (by rw [hw]; decide +kernel) rfl) rfl) (y_seqR (y_ifE (b := true) (tk_yes (x := none) h sh hw rfl) (y_retE (z_ofE rfl)))))) rfl
  no := fun z1 z2 => alone_cnt h sh (by rw [hw]; decide +kernel) z2
theorem c1_eq {fn : StF} {s s' d : PyData} {r : En} (hf : fn [s] [] = some (.inl (d, [s']))) : mCS [(0, 0)] 0 fn mNilZ (some s :: r) = some (.val d (some s' :: r)) := by
  have g : getS [(0, 0)] (some s :: r) = some [s] := rfl
  unfold mCS
  rw [g, Option.bind_some, zb (d := []) (e1 := some s :: r) rfl]
  show (if ([] : List PyData).length = 0 then _ else _) = _
  rw [if_pos (show ([] : List PyData).length = 0 from rfl), g, Option.bind_some]
  show ((fn [s] []).bind _) = _
  rw [hf]
  rfl
theorem alone_col {w : Str} (hw : W[p]? = some w) (k : NmOk w) (hp : c.parts = 1) (r : fs_take_about_column [RS W p] [] = some (.inl (c.d, [RS W (p + len)]))) : Res W (fs_take_alone (n + 1) [RS W p, BS m br wh] []) c p len m br wh := by
  have ne : ∀ z ∈ barL, W[p]? ≠ some z := fun z hz => by
    rw [hw]
    exact fun e => k.ne hz (Option.some.inj e)
  have nb : W[p]? ≠ some "(" := by
    rw [hw]
    exact fun e => k.ne_br (Option.some.inj e)
  refine ⟨fun z => ?_, fun z1 z2 => alone_cnt h sh nb (by omega)⟩
  rw [hp] at z ⊢
  show runS 2 [0, 1] (mb_take_alone (fs_take_alone n)) _ _ = _
  exact ev_runS (env := [some (RS W (p + len)), some (BS (m + 1) br wh)]) (al_pre h sh nb (ne _ (by decide +kernel)) z (y_seq (e1 := [some (RS W p), some (BS (m + 1) br wh)]) (y_ifE (b := false) (tk_no h sh (signs_sh _ (by simp)) (ne _ (by decide +kernel)) rfl) rfl) (y_seq (e1 := [some (RS W p), some (BS (m + 1) br wh)]) (y_ifE (b := false) (tk_no h sh (signs_sh _ (by simp)) (ne _ (by decide +kernel)) rfl) rfl) (y_retE (c1_eq h sh r))))) rfl
theorem CT.dep_pos (c : CT) : 1 ≤ c.dep := by
  cases c <;> simp [CT.dep]
end
theorem join_glue : ∀ ws : List Str, Str.join sp ws = glue ws
  | [] => rfl
  | [x] => rfl
  | x :: y :: r => by
    show x ++ sp ++ Str.join sp (y :: r) = x ++ (sp ++ glue (y :: r))
    rw [join_glue (y :: r), s_assoc]
def noSp (w : Str) : Prop := 32 ∉ w.cps.toList
theorem NmOk.noSp {w : Str} (h : NmOk w) : noSp w := fun z => by
  obtain ⟨cs, rfl, h1, h2, h3⟩ := h.cs
  have := h3 32 z
  unfold Lc at this
  omega
theorem num_noSp {v : Nat} (h : v ≤ 10) : noSp (numW v) := by
  have : ∀ v ∈ List.range 11, ¬ 32 ∈ (numW v).cps.toList := by decide +kernel
  exact this v (List.mem_range.mpr (by omega))
theorem sgn_noSp : ∀ w ∈ ([("mine" : Str), "empty", "loud", "<", "=", "(", ")", "not", "has", "yes", "and", "or"] : List Str), noSp w := by
  intro w hw
  simp only [List.mem_cons, List.not_mem_nil, or_false] at hw
  rcases hw with rfl | rfl | rfl | rfl | rfl | rfl | rfl | rfl | rfl | rfl | rfl | rfl <;> (unfold noSp; decide +kernel)
theorem num_sh {v : Nat} (h : v ≤ 10) : SeqAt.shaped (.str (numW v)) = true := by
  have : ∀ v ∈ List.range 11, SeqAt.shaped (.str (numW v)) = true := by decide +kernel
  exact this v (List.mem_range.mpr (by omega))
/-- a word as it may stand -/
def Wd (w : Str) : Prop := SeqAt.shaped (.str w) = true ∧ noSp w
theorem wd_sgn {w : Str} (h : w ∈ ([("mine" : Str), "empty", "loud", "<", "=", "(", ")", "not", "has", "yes", "and", "or"] : List Str)) : Wd w := ⟨signs_sh w h, sgn_noSp w h⟩
theorem NmOk.wd {w : Str} (h : NmOk w) : Wd w := ⟨h.shaped, h.noSp⟩
theorem put_wd {r l : Nat} {ws : List Str} (h : ∀ w ∈ ws, Wd w) : ∀ w ∈ putW r l ws, Wd w := fun w hw => by
  unfold putW at hw
  split at hw
  · simp only [List.mem_cons, List.mem_append, List.not_mem_nil, or_false] at hw
    rcases hw with rfl | hw | rfl
    · exact wd_sgn (by simp)
    · exact h w hw
    · exact wd_sgn (by simp)
  · exact h w hw
theorem CT.wds {hh : Bool} : ∀ c : CT, c.Ok hh → ∀ w ∈ c.ws, Wd w
  | .yes, _, w, hw => by
    simp only [CT.ws, List.mem_cons, List.not_mem_nil, or_false] at hw
    subst hw
    exact wd_sgn (by simp)
  | .eqn c v, ok, w, hw => by
    simp only [CT.ws, List.mem_cons, List.not_mem_nil, or_false] at hw
    rcases hw with rfl | rfl | rfl
    · exact ok.1.wd
    · exact wd_sgn (by simp)
    · exact ⟨num_sh (Nat.le_trans ok.2 (by decide)), num_noSp (Nat.le_trans ok.2 (by decide))⟩
  | .les c v, ok, w, hw => by
    simp only [CT.ws, List.mem_cons, List.not_mem_nil, or_false] at hw
    rcases hw with rfl | rfl | rfl
    · exact ok.1.wd
    · exact wd_sgn (by simp)
    · exact ⟨num_sh ok.2, num_noSp ok.2⟩
  | .same c o, ok, w, hw => by
    simp only [CT.ws, List.mem_cons, List.not_mem_nil, or_false] at hw
    rcases hw with rfl | rfl | rfl
    · exact ok.1.wd
    · exact wd_sgn (by simp)
    · exact ok.2.wd
  | .mine c, ok, w, hw => by
    simp only [CT.ws, List.mem_cons, List.not_mem_nil, or_false] at hw
    rcases hw with rfl | rfl
    · exact NmOk.wd ok
    · exact wd_sgn (by simp)
  | .emp c, ok, w, hw => by
    simp only [CT.ws, List.mem_cons, List.not_mem_nil, or_false] at hw
    rcases hw with rfl | rfl
    · exact NmOk.wd ok
    · exact wd_sgn (by simp)
  | .lou c, ok, w, hw => by
    simp only [CT.ws, List.mem_cons, List.not_mem_nil, or_false] at hw
    rcases hw with rfl | rfl
    · exact NmOk.wd ok
    · exact wd_sgn (by simp)
  | .neg a, ok, w, hw => by
    have ih := CT.wds a ok
    simp only [CT.ws, List.mem_cons] at hw
    rcases hw with rfl | hw
    · exact wd_sgn (by simp)
    · exact put_wd ih w hw
  | .con a b, ok, w, hw => by
    have ia := CT.wds a ok.1
    have ib := CT.wds b ok.2
    simp only [CT.ws, List.mem_append, List.mem_cons] at hw
    rcases hw with hw | rfl | hw
    · exact put_wd ia w hw
    · exact wd_sgn (by simp)
    · exact put_wd ib w hw
  | .dis a b, ok, w, hw => by
    have ia := CT.wds a ok.1
    have ib := CT.wds b ok.2
    simp only [CT.ws, List.mem_append, List.mem_cons] at hw
    rcases hw with hw | rfl | hw
    · exact put_wd ia w hw
    · exact wd_sgn (by simp)
    · exact put_wd ib w hw
  | .has t x y a, ok, w, hw => by
    obtain ⟨_, k0, k1, k2, k3, _⟩ := ok
    have ia := CT.wds a k3
    simp only [CT.ws, List.mem_append, List.mem_cons, List.not_mem_nil, or_false] at hw
    rcases hw with (rfl | rfl | rfl | rfl | rfl) | hw | rfl
    · exact wd_sgn (by simp)
    · exact k0.wd
    · exact k1.wd
    · exact k2.wd
    · exact wd_sgn (by simp)
    · exact ia w hw
    · exact wd_sgn (by simp)
section
variable {W : List Str} (h : W.length ≤ 100000) {c : CT}
theorem init_eq : fs_Reader___init [.dict []] [.list (W.map .str)] = some (.inl (.none, [RS W 0])) := rfl
theorem reader_eq {t : Str} (hs : Txt.split t " " = W) (ht : t.length + 2 ≤ 100000) : fn_reader_of [.str t] = some (.inl (RS W 0)) := by
  have sp_ : mSplit (mVar 0) (mC (.str " ")) [some (.str t)] = some (.list (W.map .str)) := by
    show (if ((" " : Str).length == 0) = false ∧ t.length + 2 ≤ sizeLine then some (PyData.list ((Txt.split t " ").map .str)) else none) = _
    rw [if_pos ⟨by decide +kernel, line_big ht⟩, hs]
  have m1 : mb_reader_of [some (.str t)] = some (.nx [some (.str t)]) := rfl
  have m2 : mn_reader_of [some (.str t)] = some (.val (RS W 0) [some (.str t)]) := by
    unfold mn_reader_of mMake
    rw [zb (z_consE (z_ofE sp_) (ds := []) (e2 := [some (.str t)]) rfl)]
    show (if ([PyData.list (W.map .str)]).length = 1 then _ else _) = _
    rw [if_pos (show ([PyData.list (W.map PyData.str)]).length = 1 from rfl), init_eq]
    rfl
  unfold fn_reader_of runN
  show (mb_reader_of [some (.str t)]).bind _ = _
  rw [m1]
  show (mn_reader_of [some (.str t)]).bind _ = _
  rw [m2]
  rfl
theorem cond_ok {m len : Nat} (r : fs_take_or (fs_take_alone 30) [RS W 0, BS 0 0 false] [] = some (.inl (c.d, [RS W len, BS m 0 false]))) : fs_take_condition [RS W 0] [] = some (.inl (c.d, [RS W len])) := by
  have mk : mMake 1 fs_Bounds___init (mConsZ (zOf (mC c_MOST_CONDITIONS)) mNilZ) [some (RS W 0)] = some (.val (BS 0 0 false) [some (RS W 0)]) := rfl
  have g : getS [(0, 0)] [some (RS W 0)] = some [RS W 0] := rfl
  unfold fs_take_condition mb_take_condition
  refine ev_runS (env := [some (RS W len)]) (y_retE ?_) rfl
  unfold mCG
  show (getS [(0, 0)] [some (RS W 0)]).bind _ = _
  rw [g, Option.bind_some]
  refine (zb mk).trans ?_
  show ((fs_take_or (fs_take_alone 30) [RS W 0, BS 0 0 false] []).bind _) = _
  rw [r]
  rfl
theorem cond_no {z : Str} (r : fs_take_or (fs_take_alone 30) [RS W 0, BS 0 0 false] [] = some (.inr z)) : fs_take_condition [RS W 0] [] = some (.inr z) := by
  have mk : mMake 1 fs_Bounds___init (mConsZ (zOf (mC c_MOST_CONDITIONS)) mNilZ) [some (RS W 0)] = some (.val (BS 0 0 false) [some (RS W 0)]) := rfl
  have g : getS [(0, 0)] [some (RS W 0)] = some [RS W 0] := rfl
  unfold fs_take_condition mb_take_condition
  refine ev_runSx (env := [none]) (y_retX ?_)
  unfold mCG
  show (getS [(0, 0)] [some (RS W 0)]).bind _ = _
  rw [g, Option.bind_some]
  refine (zb mk).trans ?_
  show ((fs_take_or (fs_take_alone 30) [RS W 0, BS 0 0 false] []).bind _) = _
  rw [r]
  rfl
include h
theorem end_eq : fs_check_end [RS W W.length] [] = some (.inl (.none, [RS W W.length])) := by
  have a := ahead_eq W W.length h
  rw [List.getElem?_eq_none (Nat.le_refl _)] at a
  unfold fs_check_end mb_check_end
  have t : mCmpZ (dIs true) (mMeth "ahead" 0 0 0 fs_Reader_ahead mNilZ) (zOf (mC .none)) [some (RS W W.length)] = some (.val false [some (RS W W.length)]) := by
    have m : mMeth "ahead" 0 0 0 fs_Reader_ahead mNilZ [some (RS W W.length)] = some (.val .none [some (RS W W.length)]) := me_eq rfl rfl rfl rfl a
    have o : mOpZ (dIs true) (mMeth "ahead" 0 0 0 fs_Reader_ahead mNilZ) (zOf (mC .none)) [some (RS W W.length)] = some (.val (.bool false) [some (RS W W.length)]) := by
      unfold mOpZ
      rw [zb m, zb (d := .none) (e1 := [some (RS W W.length)]) rfl]
      rfl
    unfold mCmpZ
    rw [zb o]
  exact ev_runSn (env := [some (RS W W.length)]) (y_ifE (b := false) t rfl) rfl
theorem c1_at {fn : StF} {s s' d : PyData} {x : Option PyData} {r : En} (hf : fn [s] [] = some (.inl (d, [s']))) : mCS [(1, 0)] 0 fn mNilZ (x :: some s :: r) = some (.val d (x :: some s' :: r)) := by
  have g : getS [(1, 0)] (x :: some s :: r) = some [s] := rfl
  unfold mCS
  rw [g, Option.bind_some, zb (d := []) (e1 := x :: some s :: r) rfl]
  show (if ([] : List PyData).length = 0 then _ else _) = _
  rw [if_pos (show ([] : List PyData).length = 0 from rfl), g, Option.bind_some]
  show ((fn [s] []).bind _) = _
  rw [hf]
  rfl
theorem c1_no {fn : StF} {s : PyData} {x : Option PyData} {r : En} {z : Str} (hf : fn [s] [] = some (.inr z)) : mCS [(1, 0)] 0 fn mNilZ (x :: some s :: r) = some (.xc z (x :: none :: r)) := by
  have g : getS [(1, 0)] (x :: some s :: r) = some [s] := rfl
  unfold mCS
  rw [g, Option.bind_some, zb (d := []) (e1 := x :: some s :: r) rfl]
  show (if ([] : List PyData).length = 0 then _ else _) = _
  rw [if_pos (show ([] : List PyData).length = 0 from rfl), g, Option.bind_some]
  show ((fn [s] []).bind _) = _
  rw [hf]
  rfl
theorem read_eq {t : Str} (hs : Txt.split t " " = W) (ht : t.length + 2 ≤ 100000) (r : Res W (fs_take_or (fs_take_alone 30) [RS W 0, BS 0 0 false] []) c 0 W.length 0 0 false) : fx_read_condition [.str t] = some (if c.parts ≤ 8 then .inl c.d else .inr "NoText") := by
  have first : mAsgN (mNew 1 fn_reader_of (mConsZ (zOf (mVar 0)) mNilZ)) 1 [some (.str t), none, none] = some (.nx [some (.str t), some (RS W 0), none]) := by
    have n : mNew 1 fn_reader_of (mConsZ (zOf (mVar 0)) mNilZ) [some (.str t), none, none] = some (.val (RS W 0) [some (.str t), none, none]) := by
      unfold mNew
      rw [zb (d := [.str t]) (e1 := [some (.str t), none, none]) rfl]
      show (if ([PyData.str t]).length = 1 then _ else _) = _
      rw [if_pos (show ([PyData.str t]).length = 1 from rfl), reader_eq hs ht]
      rfl
    unfold mAsgN
    exact y_asgE n
  unfold fx_read_condition runY
  show (mb_read_condition [some (.str t), none, none]).bind _ = _
  unfold mb_read_condition
  by_cases z : c.parts ≤ 8
  · have ro := r.ok (by omega)
    rw [Nat.zero_add] at ro
    rw [y_seq first (y_seq (e1 := [some (.str t), some (RS W W.length), some c.d]) (y_asgE (c1_at h (cond_ok ro))) (y_seq (e1 := [some (.str t), some (RS W W.length), some c.d]) (y_expE (c1_at h (end_eq h))) (y_retE (d := c.d) (e1 := [some (.str t), some (RS W W.length), some c.d]) rfl))), if_pos z]
    rfl
  · have ro := r.no (by omega) (by omega)
    rw [y_seq first (y_seqX (y_asgX (c1_no h (cond_no ro)))), if_neg z]
    rfl
end
theorem lst0 {env : En} : mLst mNil env = some (.list []) := ev_lst rfl (line_big (by decide))
theorem tup1 {env : En} {m : En → Option PyData} {d : PyData} (h : m env = some d) : mTup (mCons m mNil) env = some (.tuple [d]) := ev_tup (ev_cons h rfl) (line_big (show 1 ≤ 100000 by decide))
theorem lst1 {env : En} {m : En → Option PyData} {d : PyData} (h : m env = some d) : mLst (mCons m mNil) env = some (.list [d]) := ev_lst (ev_cons h rfl) (line_big (show 1 ≤ 100000 by decide))
theorem tup2 {env : En} {m n : En → Option PyData} {d e : PyData} (h : m env = some d) (h2 : n env = some e) : mTup (mCons m (mCons n mNil)) env = some (.tuple [d, e]) := ev_tup (ev_cons h (ev_cons h2 rfl)) (line_big (show 2 ≤ 100000 by decide))
theorem atI_in {α : Type} {xs : List α} {i : Int} (h0 : 0 ≤ i) (h1 : i < (xs.length : Nat)) : ∃ x ∈ xs, atI xs i = some x := by
  obtain ⟨place, rfl⟩ := Int.eq_ofNat_of_zero_le h0
  have hj : place < xs.length := by omega
  exact ⟨xs[place], List.getElem_mem hj, atI_nat (List.getElem?_eq_getElem hj)⟩
def valOk (c : Col) (d : PyData) : Bool := within d (-(b2 c.op)) (c.size - 1)
def rowGo : List Col → List PyData → Bool
  | [], [] => true
  | c :: cs, d :: ds => valOk c d && rowGo cs ds
  | _, _ => false
theorem rowGo_len : ∀ {cs : List Col} {ds : List PyData}, rowGo cs ds = true → ds.length = cs.length
  | [], [], _ => rfl
  | [], _ :: _, h => by cases h
  | _ :: _, [], h => by cases h
  | c :: cs, d :: ds, h => by
    rw [rowGo, Bool.and_eq_true] at h
    rw [List.length_cons, List.length_cons, rowGo_len h.2]
def RowOk (t : Tab) (r : List Int) : Prop := rowGo t.cols (r.map .int) = true
theorem RowOk.len {t : Tab} {r : List Int} (h : RowOk t r) : r.length = t.cols.length := by
  have := rowGo_len h
  rw [List.length_map] at this
  exact this
theorem RowOk.ne {t : Tab} (g : t.Gd) {r : List Int} (h : RowOk t r) : r ≠ [] := fun z => by
  have h1 := h.len
  have h2 := g.some
  rw [z] at h1
  simp at h1
  omega
/-- names as data: a tuple or a list of them -/
inductive NmS (cols : List Str) : PyData → Prop
  | tup : NmS cols (.tuple (cols.map .str))
  | lst : NmS cols (.list (cols.map .str))
theorem dEq_str {x y : Str} (hx : SeqAt.shaped (.str x) = true) (hy : SeqAt.shaped (.str y) = true) : dEq (.str x) (.str y) = some (.bool (decide (x = y))) := by
  rw [dEq, if_pos ⟨hx, hy⟩, PyData.eqv]
  refine congrArg (fun told => some (PyData.bool told)) ?_
  by_cases z : x = y
  · simp [z]
  · simp [z]
theorem names_lc {t : Tab} (g : t.Gd) {env : En} {vs : List Nat} {m : En → Option PyData} {j : Nat} {le : En → Option PyData} (h : m env = some t.enc) (he : ∀ c : Col, le ((wipeD env vs).set j (some c.enc)) = some (.str c.name)) :
    mLc vs (mIt (mBin dIx m (mC (.int 2)))) (gB j) mYes le env = some (.list ((t.cols.map Col.name).map .str)) := by
  have few := g.few
  refine ev_lc (ds := t.cols.map Col.enc) (ev_it (d := .tuple (t.cols.map Col.enc)) (ev_bin h rfl rfl) rfl) (es := (t.cols.map Col.name).map .str) ?_ (line_big (by rw [List.length_map, List.length_map]; omega))
  refine (lc_map (f := fun d => match d with | .tuple (x :: _) => x | d => d) fun d hd => ?_).trans ?_
  · obtain ⟨c, hc, rfl⟩ := List.mem_map.mp hd
    exact ⟨_, gB_ap _ _ _, rfl, he c⟩
  · rw [List.map_map, List.map_map]
    rfl
theorem pick_any {env : En} {m : En → Option PyData} {s : PyData} {ds : List PyData} {ps : List Int} {k : Nat} (hs : s = .list ds ∨ s = .tuple ds) (hm : m env = some s) (hv : mVar 0 env = some (.list (ps.map .int))) (hk : k < ps.length) (hne : ds ≠ []) :
    ∃ x ∈ ds, mBin dIx m (mBin dMod (mBin dIx (mVar 0) (mC (.int (k : Int)))) (mCB bLen (mCons m mNil))) env = some x := by
  have pos := List.length_pos_iff.mpr hne
  have m0 := Int.emod_nonneg (ps.getD k 0) (show ((ds.length : Nat) : Int) ≠ 0 by omega)
  have m1 := Int.emod_lt_of_pos (ps.getD k 0) (show (0 : Int) < ((ds.length : Nat) : Int) by omega)
  obtain ⟨x, hx, e⟩ := atI_in (xs := ds) m0 m1
  refine ⟨x, hx, ?_⟩
  have ln : mCB bLen (mCons m mNil) env = some (.int ((ds.length : Nat) : Int)) := by
    refine ev_cb (ev_cons hm rfl) ?_
    rcases hs with rfl | rfl <;> rfl
  refine ev_bin hm (ev_bin (ev_bin hv rfl (pick_get hk)) ln (dMod_int (by omega))) ?_
  rcases hs with rfl | rfl
  · exact e
  · exact e
def NmA (ws : List Str) : Prop := ∀ w ∈ ws, NmOk w
theorem NmA.shaped {ws : List Str} (h : NmA ws) : ∀ x ∈ ws, SeqAt.shaped (.str x) = true := fun x hx => (h x hx).shaped
theorem NmS.ds {cols : List Str} {c : PyData} (h : NmS cols c) : c = .list (cols.map .str) ∨ c = .tuple (cols.map .str) := by
  cases h with
  | tup => exact .inr rfl
  | lst => exact .inl rfl
theorem pick_col {env : En} {m : En → Option PyData} {c : PyData} {cols : List Str} {ps : List Int} {k : Nat} (hs : NmS cols c) (hm : m env = some c) (hv : mVar 0 env = some (.list (ps.map .int))) (hk : k < ps.length) (hne : cols ≠ []) :
    ∃ x ∈ cols, mBin dIx m (mBin dMod (mBin dIx (mVar 0) (mC (.int (k : Int)))) (mCB bLen (mCons m mNil))) env = some (.str x) := by
  obtain ⟨y, hy, e⟩ := pick_any hs.ds hm hv hk (by simpa using hne)
  obtain ⟨x, hx, rfl⟩ := List.mem_map.mp hy
  exact ⟨x, hx, e⟩
theorem ev_rep {ms : En → Option (List PyData)} {mn : En → Option PyData} {env : En} {ds : List PyData} {j : Nat} (h1 : ms env = some ds) (h2 : mn env = some (.int (j : Int))) (hd : ds.length ≤ 4) (hj : j ≤ 1) : mRep ms mn env = some (.list (List.replicate j ds).flatten) := by
  unfold mRep
  rw [h1, Option.bind_some, h2, Option.bind_some]
  have b : ds.length * j ≤ 4 := Nat.le_trans (Nat.mul_le_mul hd hj) (by decide)
  show (if ds.length ≤ sizeLine ∧ -(2 ^ 63) ≤ (j : Int) ∧ (j : Int) < 2 ^ 63 ∧ ds.length * ((j : Int)).toNat ≤ sizeLine then some (PyData.list (List.replicate ((j : Int)).toNat ds).flatten) else none) = _
  rw [if_pos ⟨line_big (by omega), by omega, by omega, by rw [Int.toNat_natCast]; exact line_big (by omega)⟩, Int.toNat_natCast]
theorem ev_count {ma mb : En → Option PyData} {env : En} {x y : Str} {j : Nat} (h1 : ma env = some (.str x)) (h2 : mb env = some (.str y)) (h3 : Txt.count x y = j) : mCount ma mb env = some (.int (j : Int)) := by
  unfold mCount
  rw [h1, Option.bind_some, h2, Option.bind_some]
  show some (PyData.int (Txt.count x y)) = _
  rw [h3]
theorem dAdd_tup {xs ys : List PyData} (h : xs.length + ys.length ≤ 100000) : dAdd (.tuple xs) (.tuple ys) = some (.tuple (xs ++ ys)) := if_pos (line_big h)
theorem Gd.names {t : Tab} (g : t.Gd) : NmA (t.cols.map Col.name) := fun x hx => by
  obtain ⟨c, hc, rfl⟩ := List.mem_map.mp hx
  exact (g.cols.1 c hc).2
theorem Gd.some_names {t : Tab} (g : t.Gd) : t.cols.map Col.name ≠ [] := fun z => by
  have := g.some
  rw [List.map_eq_nil_iff] at z
  rw [z] at this
  cases this
theorem flat_map (j : Nat) (ws : List Str) : (List.replicate j (ws.map PyData.str)).flatten = ((List.replicate j ws).flatten).map PyData.str := by
  (rw [List.map_flatten, List.map_replicate])
theorem new_names_eq {ps : List Int} {taken : List Str} {m : Nat} (hm : m ≤ 3) (hp : 8 ≤ ps.length) (ht : ∀ t ∈ taken, SeqAt.shaped (.str t) = true) (hl : taken.length ≤ 10) : ∃ fs : List Str, fm_law_new_names [.list (ps.map .int), .int (m : Int), .list (taken.map .str)] = some (.tuple (fs.map .str)) ∧ NmA fs ∧ fs.length = m := by
  have loop : ∃ e', loopD (gB 4) lb1_law_new_names (rangeD 0 m) [some (.list (ps.map .int)), some (.int (m : Int)), some (.list (taken.map .str)), some (.list []), none] = some (.nx e') ∧ ∃ (fs : List Str) (z4 : Option PyData), e' = [some (.list (ps.map .int)), some (.int (m : Int)), some (.list (taken.map .str)), some (.list (fs.map .str)), z4] ∧ fs.length = m ∧ NmA fs := by
    refine loop_range (fun i e => ∃ (fs : List Str) (z4 : Option PyData), e = [some (.list (ps.map .int)), some (.int (m : Int)), some (.list (taken.map .str)), some (.list (fs.map .str)), z4] ∧ fs.length = i ∧ NmA fs) ⟨[], none, rfl, rfl, fun _ h => nomatch h⟩ fun i e hi he => ?_
    obtain ⟨fs, z4, rfl, h1, h2⟩ := he
    obtain ⟨w, n1, n2, _⟩ := name_eq (ps := ps.drop i) (taken := taken ++ fs) (by rw [List.length_drop]; omega) (fun t hh => by
      rcases List.mem_append.mp hh with q | q
      · exact ht t q
      · exact (h2 t q).shaped) (by rw [List.length_append]; omega)
    rw [Int.zero_add]
    refine ⟨_, [some (.list (ps.map .int)), some (.int (m : Int)), some (.list (taken.map .str)), some (.list ((fs ++ [w]).map .str)), some (.int (i : Int))], rfl, .inl ?_, fs ++ [w], _, rfl, by rw [List.length_append, h1]; rfl, fun x hx => ?_⟩
    · unfold lb1_law_new_names
      refine (ev_app (ds := fs.map .str) (d := .str w) rfl (ev_cb (ev_cons (ev_sl rfl (ev_part rfl) rfl (slice_ints_from (a := i) rfl)) (ev_cons (d := .list ((taken ++ fs).map .str)) (ev_bin rfl rfl ?_) rfl)) n1) (line_lt (by rw [List.length_map]; omega))).trans ?_
      · rw [dAdd_list (by rw [List.length_map, List.length_map]; omega), List.map_append]
      · rw [List.map_append]
        rfl
    · rcases List.mem_append.mp hx with q | q
      · exact h2 x q
      · rw [List.mem_singleton.mp q]
        exact n2
  obtain ⟨e', l1, fs, z4, rfl, f1, f2⟩ := loop
  refine ⟨fs, ?_, f2, f1⟩
  unfold fm_law_new_names mb_law_new_names
  refine ev_run (d := .tuple (fs.map .str)) (ev_set lst0 (ev_for (ds := rangeD 0 m) (ev_rng (ev_cons rfl rfl) ?_) l1 (ev_ret (ev_cb (ev_cons rfl rfl) rfl)))) rfl
  rw [rng1_ok (by omega) (by omega), Int.toNat_natCast]
theorem cell_eq (ns : List Int) (hl : ns.length ≤ 63) : fm_law_cell_at [.list (ns.map .int), .int 0] = some (.int (ns.getD 0 0)) := by
  unfold fm_law_cell_at mb_law_cell_at
  refine ev_run (d := .int (ns.getD 0 0)) ?_ rfl
  cases ns with
  | nil => exact ev_ifF (ev_tst (ev_bin rfl (ev_cb (ev_cons rfl rfl) rfl) rfl)) rfl (ev_ret rfl)
  | cons n ns =>
    refine ev_ifR (ev_tst (ev_bin rfl (ev_cb (ds := [.list ((n :: ns).map .int)]) (ev_cons rfl rfl) (o := some (.int ((n :: ns).length : Nat))) ?_) ?_)) (ev_ret (ev_bin rfl rfl (dIx_zero _ _)))
    · show some (PyData.int (((n :: ns).map PyData.int).length : Nat)) = _
      rw [List.length_map]
    · rw [dLt_int, decide_eq_true (by rw [List.length_cons]; omega)]
structure Wy (w : Str) (m l h : Nat) : Prop where
  m1 : m ≤ 1
  l1 : l ≤ 1
  h1 : h ≤ 1
  cm : Txt.count w "m" = (m : Int)
  cl : Txt.count w "l" = (l : Int)
  ch : Txt.count w "h" = (h : Int)
inductive Cd (m l : Nat) (g : List Tab) : Nat → Nat → List Str → PyData → Prop
  | cYes {h k : Nat} {cols : List Str} : Cd m l g h (k + 1) cols (.tuple [.str "yes"])
  | cIs {h k : Nat} {cols : List Str} {c : Str} {n : Int} : c ∈ cols → 0 ≤ n → n ≤ 9 → Cd m l g h (k + 1) cols (.tuple [.str "is", .str c, .int n])
  | cBelow {h k : Nat} {cols : List Str} {c : Str} {n : Int} : c ∈ cols → 0 ≤ n → n ≤ 10 → Cd m l g h (k + 1) cols (.tuple [.str "below", .str c, .int n])
  | cSame {h k : Nat} {cols : List Str} {c o : Str} : c ∈ cols → o ∈ cols → Cd m l g h (k + 1) cols (.tuple [.str "same", .str c, .str o])
  | cEmpty {h k : Nat} {cols : List Str} {c : Str} : c ∈ cols → Cd m l g h (k + 1) cols (.tuple [.str "empty", .str c])
  | cMine {h k : Nat} {cols : List Str} {c : Str} : m = 1 → c ∈ cols → Cd m l g h (k + 1) cols (.tuple [.str "mine", .str c])
  | cLoud {h k : Nat} {cols : List Str} {c : Str} : l = 1 → c ∈ cols → Cd m l g h (k + 1) cols (.tuple [.str "loud", .str c])
  | cNot {h k : Nat} {cols : List Str} {x : PyData} : Cd m l g h k cols x → Cd m l g h (k + 1) cols (.tuple [.str "not", x])
  | cAnd {h k : Nat} {cols : List Str} {x y : PyData} : Cd m l g h k cols x → Cd m l g h k cols y → Cd m l g h (k + 1) cols (.tuple [.str "and", x, y])
  | cOr {h k : Nat} {cols : List Str} {x y : PyData} : Cd m l g h k cols x → Cd m l g h k cols y → Cd m l g h (k + 1) cols (.tuple [.str "or", x, y])
  | cHas {h k : Nat} {cols : List Str} {t : Tab} {x y : Str} {d : PyData} : h = 1 → t ∈ g → x ∈ cols → y ∈ t.cols.map Col.name → Cd m l g 0 k (t.cols.map Col.name) d → Cd m l g h (k + 1) cols (.tuple [.str "has", .str t.name, .str x, .str y, d])
theorem Cd.mono {m l : Nat} {g : List Tab} {h k : Nat} {cols : List Str} {d : PyData} (c : Cd m l g h k cols d) : ∀ {k2 : Nat}, k ≤ k2 → Cd m l g h k2 cols d := by
  induction c with
  | cYes => exact fun {k2} q => by obtain ⟨j, rfl⟩ : ∃ j, k2 = j + 1 := ⟨k2 - 1, by omega⟩; exact .cYes
  | cIs a b b2 => exact fun {k2} q => by obtain ⟨j, rfl⟩ : ∃ j, k2 = j + 1 := ⟨k2 - 1, by omega⟩; exact .cIs a b b2
  | cBelow a b b2 => exact fun {k2} q => by obtain ⟨j, rfl⟩ : ∃ j, k2 = j + 1 := ⟨k2 - 1, by omega⟩; exact .cBelow a b b2
  | cSame a b => exact fun {k2} q => by obtain ⟨j, rfl⟩ : ∃ j, k2 = j + 1 := ⟨k2 - 1, by omega⟩; exact .cSame a b
  | cEmpty a => exact fun {k2} q => by obtain ⟨j, rfl⟩ : ∃ j, k2 = j + 1 := ⟨k2 - 1, by omega⟩; exact .cEmpty a
  | cMine e a => exact fun {k2} q => by obtain ⟨j, rfl⟩ : ∃ j, k2 = j + 1 := ⟨k2 - 1, by omega⟩; exact .cMine e a
  | cLoud e a => exact fun {k2} q => by obtain ⟨j, rfl⟩ : ∃ j, k2 = j + 1 := ⟨k2 - 1, by omega⟩; exact .cLoud e a
  | cNot _ ih => exact fun {k2} q => by obtain ⟨j, rfl⟩ : ∃ j, k2 = j + 1 := ⟨k2 - 1, by omega⟩; exact .cNot (ih (by omega))
  | cAnd _ _ i1 i2 => exact fun {k2} q => by obtain ⟨j, rfl⟩ : ∃ j, k2 = j + 1 := ⟨k2 - 1, by omega⟩; exact .cAnd (i1 (by omega)) (i2 (by omega))
  | cOr _ _ i1 i2 => exact fun {k2} q => by obtain ⟨j, rfl⟩ : ∃ j, k2 = j + 1 := ⟨k2 - 1, by omega⟩; exact .cOr (i1 (by omega)) (i2 (by omega))
  | cHas e a b c _ ih => exact fun {k2} q => by obtain ⟨j, rfl⟩ : ∃ j, k2 = j + 1 := ⟨k2 - 1, by omega⟩; exact .cHas e a b c (ih (by omega))
def wordL (m l : Nat) : List Str := [("is" : Str), "below", "same", "empty", "is", "below", "yes"] ++ (List.replicate m [("mine" : Str)]).flatten ++ (List.replicate l [("loud" : Str), "loud", "loud"]).flatten
theorem word_in {m l : Nat} (hm : m ≤ 1) (hl : l ≤ 1) : ∀ w ∈ wordL m l, (w = "is" ∨ w = "below" ∨ w = "same" ∨ w = "empty" ∨ w = "yes" ∨ (w = "mine" ∧ m = 1) ∨ (w = "loud" ∧ l = 1)) ∧ SeqAt.shaped (.str w) = true := fun w hw => by
  have e : ∀ z ∈ [("is" : Str), "below", "same", "empty", "yes", "mine", "loud"], SeqAt.shaped (.str z) = true := by
    intro z hz
    (simp only [List.mem_cons, List.not_mem_nil, or_false] at hz)
    rcases hz with rfl | rfl | rfl | rfl | rfl | rfl | rfl <;> decide +kernel
  have key : w = "is" ∨ w = "below" ∨ w = "same" ∨ w = "empty" ∨ w = "yes" ∨ (w = "mine" ∧ m = 1) ∨ (w = "loud" ∧ l = 1) := by
    rcases Nat.le_one_iff_eq_zero_or_eq_one.mp hm with rfl | rfl <;> rcases Nat.le_one_iff_eq_zero_or_eq_one.mp hl with rfl | rfl <;> simp [wordL] at hw <;> grind
  refine ⟨key, ?_⟩
  rcases key with rfl | rfl | rfl | rfl | rfl | ⟨rfl, _⟩ | ⟨rfl, _⟩ <;> exact e _ (by simp)
theorem word_ne (m l : Nat) : wordL m l ≠ [] := fun z => by
  unfold wordL at z
  rw [List.append_assoc] at z
  cases z
theorem atom_eq {ps : List Int} {c : PyData} {cols : List Str} {ways : Str} {m l h : Nat} {gt : List Tab} (hp : 6 ≤ ps.length) (hw : Wy ways m l h) (hn : NmS cols c) (hc : NmA cols) (hne : cols ≠ []) : ∃ xs, fm_law_atom [.list (ps.map .int), c, .str ways] = some (.tuple xs) ∧ Cd m l gt h 1 cols (.tuple xs) := by
  have lm : ((List.replicate m [("mine" : Str)]).flatten).length ≤ 1 := by
    rcases Nat.le_one_iff_eq_zero_or_eq_one.mp hw.m1 with rfl | rfl <;> decide
  have ll : ((List.replicate l [("loud" : Str), "loud", "loud"]).flatten).length ≤ 3 := by
    rcases Nat.le_one_iff_eq_zero_or_eq_one.mp hw.l1 with rfl | rfl <;> decide
  have w1 : mBin dAdd (mLst (mCons (mC (.str "is")) (mCons (mC (.str "below")) (mCons (mC (.str "same")) (mCons (mC (.str "empty")) (mCons (mC (.str "is")) (mCons (mC (.str "below")) (mCons (mC (.str "yes")) mNil)))))))) (mRep (mCons (mC (.str "mine")) mNil) (mCount (mVar 2) (mC (.str "m")))) [some (.list (ps.map .int)), some c, some (.str ways), none, none, none, none] = some (.list (([("is" : Str), "below", "same", "empty", "is", "below", "yes"] ++ (List.replicate m [("mine" : Str)]).flatten).map .str)) := by
    have r1 := ev_rep (env := [some (.list (ps.map .int)), some c, some (.str ways), none, none, none, none]) (ms := mCons (mC (.str "mine")) mNil) (mn := mCount (mVar 2) (mC (.str "m"))) (ds := [("mine" : Str)].map .str) rfl (ev_count rfl rfl hw.cm) (by decide) hw.m1
    rw [flat_map] at r1
    refine ev_bin (a := .list ([("is" : Str), "below", "same", "empty", "is", "below", "yes"].map .str)) (ev_lst (ev_cons rfl (ev_cons rfl (ev_cons rfl (ev_cons rfl (ev_cons rfl (ev_cons rfl (ev_cons rfl rfl))))))) (line_big (show 7 ≤ 100000 by decide))) r1 ?_
    rw [dAdd_list (by rw [List.length_map, List.length_map]; show 7 + _ ≤ 100000; omega), List.map_append]
  have w2 : mBin dAdd (mVar 3) (mRep (mCons (mC (.str "loud")) (mCons (mC (.str "loud")) (mCons (mC (.str "loud")) mNil))) (mCount (mVar 2) (mC (.str "l")))) [some (.list (ps.map .int)), some c, some (.str ways), some (.list (([("is" : Str), "below", "same", "empty", "is", "below", "yes"] ++ (List.replicate m [("mine" : Str)]).flatten).map .str)), none, none, none] = some (.list ((wordL m l).map .str)) := by
    have r1 := ev_rep (env := [some (.list (ps.map .int)), some c, some (.str ways), some (.list (([("is" : Str), "below", "same", "empty", "is", "below", "yes"] ++ (List.replicate m [("mine" : Str)]).flatten).map .str)), none, none, none]) (ms := mCons (mC (.str "loud")) (mCons (mC (.str "loud")) (mCons (mC (.str "loud")) mNil))) (mn := mCount (mVar 2) (mC (.str "l"))) (ds := [("loud" : Str), "loud", "loud"].map .str) rfl (ev_count rfl rfl hw.cl) (by decide) hw.l1
    rw [flat_map] at r1
    refine ev_bin (a := .list (([("is" : Str), "below", "same", "empty", "is", "below", "yes"] ++ (List.replicate m [("mine" : Str)]).flatten).map .str)) rfl r1 ?_
    rw [dAdd_list (by rw [List.length_map, List.length_map, List.length_append]; show 7 + _ + _ ≤ 100000; omega), ← List.map_append]
    rfl
  obtain ⟨w, hwd, w3⟩ := pick_col (env := [some (.list (ps.map .int)), some c, some (.str ways), some (.list ((wordL m l).map .str)), none, none, none]) (m := mVar 3) (k := 0) (cols := wordL m l) .lst rfl rfl (by omega) (word_ne m l)
  obtain ⟨x, hx, w4⟩ := pick_col (env := [some (.list (ps.map .int)), some c, some (.str ways), some (.list ((wordL m l).map .str)), some (.str w), none, none]) (m := mVar 1) (k := 1) hn rfl rfl (by omega) hne
  obtain ⟨y, hy, w5⟩ := pick_col (env := [some (.list (ps.map .int)), some c, some (.str ways), some (.list ((wordL m l).map .str)), some (.str w), some (.str x), none]) (m := mVar 1) (k := 2) hn rfl rfl (by omega) hne
  obtain ⟨wc, sw⟩ := word_in hw.m1 hw.l1 w hwd
  have q1 : ∀ z6 : Option PyData, mTst (mBin dEq (mVar 4) (mC (.str "yes"))) [some (.list (ps.map .int)), some c, some (.str ways), some (.list ((wordL m l).map .str)), some (.str w), some (.str x), z6] = some (decide (w = "yes")) := fun _ => ev_tst (ev_bin rfl rfl (dEq_str sw (by decide +kernel)))
  have q2 : mTst (mBin dEq (mVar 4) (mC (.str "same"))) [some (.list (ps.map .int)), some c, some (.str ways), some (.list ((wordL m l).map .str)), some (.str w), some (.str x), none] = some (decide (w = "same")) := ev_tst (ev_bin rfl rfl (dEq_str sw (by decide +kernel)))
  have q3 : mTst (mBin (dIn false) (mVar 4) (mTup (mCons (mC (.str "is")) (mCons (mC (.str "below")) mNil)))) [some (.list (ps.map .int)), some c, some (.str ways), some (.list ((wordL m l).map .str)), some (.str w), some (.str x), none] = some (decide (w ∈ [("is" : Str), "below"])) := by
    refine ev_tst (ev_bin rfl (b := .tuple ([("is" : Str), "below"].map .str)) (tup2 rfl rfl) ?_)
    rw [dIn_tup sw (fun x hx => ?_), Bool.false_xor]
    (simp only [List.mem_cons, List.not_mem_nil, or_false] at hx)
    rcases hx with rfl | rfl <;> decide +kernel
  have head : ∀ {r : PyData}, (mSeq (mIfS (mTst (mBin dEq (mVar 4) (mC (.str "yes")))) (mRet (mTup (mCons (mVar 4) mNil))) mNext) (mSeq (mIfS (mTst (mBin dEq (mVar 4) (mC (.str "same")))) (mRet (mTup (mCons (mVar 4) (mCons (mVar 5) (mCons (mBin dIx (mVar 1) (mBin dMod (mBin dIx (mVar 0) (mC (.int 2))) (mCB bLen (mCons (mVar 1) mNil)))) mNil))))) mNext) (mSeq (mIfS (mTst (mBin (dIn false) (mVar 4) (mTup (mCons (mC (.str "is")) (mCons (mC (.str "below")) mNil))))) (mSeq (mAsg (mBin dIx (mLst (mCons (mBin dMod (mBin dIx (mVar 0) (mC (.int 3))) (mC (.int 3))) (mCons (mBin dMod (mBin dIx (mVar 0) (mC (.int 3))) (mC (.int 10))) mNil))) (mBin dMod (mBin dIx (mVar 0) (mC (.int 4))) (mC (.int 2)))) (gB 6)) (mRet (mTup (mCons (mVar 4) (mCons (mVar 5) (mCons (mBin dAdd (mVar 6) (mCB bInt (mCons (mAnd (mBin dEq (mVar 4) (mC (.str "below"))) (mBin dEq (mBin dMod (mBin dIx (mVar 0) (mC (.int 5))) (mC (.int 2))) (mC (.int 0)))) mNil))) mNil)))))) mNext) (mRet (mTup (mCons (mVar 4) (mCons (mVar 5) mNil))))))) [some (.list (ps.map .int)), some c, some (.str ways), some (.list ((wordL m l).map .str)), some (.str w), some (.str x), none] = some (.rt r) → fm_law_atom [.list (ps.map .int), c, .str ways] = some r := fun {r} h => by
    unfold fm_law_atom mb_law_atom
    exact ev_run (d := r) (ev_set w1 (ev_set w2 (ev_set w3 (ev_set w4 h)))) rfl
  by_cases z1 : w = "yes"
  · rw [decide_eq_true z1] at q1
    subst z1
    exact ⟨_, head (ev_ifR (q1 none) (ev_ret (tup1 rfl))), .cYes⟩
  rw [decide_eq_false z1] at q1
  by_cases z2 : w = "same"
  · rw [decide_eq_true z2] at q2
    refine ⟨_, head (ev_ifF (q1 none) rfl (ev_ifR q2 (ev_ret (ev_tup (ev_cons rfl (ev_cons rfl (ev_cons w5 rfl))) (line_big (show 3 ≤ 100000 by decide)))))), ?_⟩
    subst z2
    exact .cSame hx hy
  rw [decide_eq_false z2] at q2
  by_cases z3 : w ∈ [("is" : Str), "below"]
  · rw [decide_eq_true z3] at q3
    have v0 : mBin dIx (mVar 0) (mC (.int 3)) [some (.list (ps.map .int)), some c, some (.str ways), some (.list ((wordL m l).map .str)), some (.str w), some (.str x), none] = some (.int (ps.getD 3 0)) := ev_bin rfl rfl (pick_get (k := 3) (by omega))
    have m0 := Int.emod_nonneg (ps.getD 4 0) (show (2 : Int) ≠ 0 by decide)
    have m1 := Int.emod_lt_of_pos (ps.getD 4 0) (show (0 : Int) < 2 by decide)
    obtain ⟨v, hv, ev⟩ := atI_in (xs := [PyData.int (ps.getD 3 0 % 3), PyData.int (ps.getD 3 0 % 10)]) m0 m1
    have k3 := Int.emod_nonneg (ps.getD 3 0) (show (3 : Int) ≠ 0 by decide)
    have k10 := Int.emod_nonneg (ps.getD 3 0) (show (10 : Int) ≠ 0 by decide)
    have l3 := Int.emod_lt_of_pos (ps.getD 3 0) (show (0 : Int) < 3 by decide)
    have l10 := Int.emod_lt_of_pos (ps.getD 3 0) (show (0 : Int) < 10 by decide)
    obtain ⟨i, rfl, hi, hi9⟩ : ∃ i, v = .int i ∧ 0 ≤ i ∧ i ≤ 9 := by
      simp only [List.mem_cons, List.not_mem_nil, or_false] at hv
      rcases hv with rfl | rfl
      · exact ⟨_, rfl, k3, by omega⟩
      · exact ⟨_, rfl, k10, by omega⟩
    have v1 : mBin dIx (mLst (mCons (mBin dMod (mBin dIx (mVar 0) (mC (.int 3))) (mC (.int 3))) (mCons (mBin dMod (mBin dIx (mVar 0) (mC (.int 3))) (mC (.int 10))) mNil))) (mBin dMod (mBin dIx (mVar 0) (mC (.int 4))) (mC (.int 2))) [some (.list (ps.map .int)), some c, some (.str ways), some (.list ((wordL m l).map .str)), some (.str w), some (.str x), none] = some (.int i) :=
      ev_bin (ev_lst (ev_cons (ev_bin v0 rfl (dMod_int (by decide))) (ev_cons (ev_bin v0 rfl (dMod_int (by decide))) rfl)) (line_big (show 2 ≤ 100000 by decide))) (ev_bin (ev_bin rfl rfl (pick_get (k := 4) (by omega))) rfl (dMod_int (by decide))) ev
    have v2 : mCB bInt (mCons (mAnd (mBin dEq (mVar 4) (mC (.str "below"))) (mBin dEq (mBin dMod (mBin dIx (mVar 0) (mC (.int 5))) (mC (.int 2))) (mC (.int 0)))) mNil) [some (.list (ps.map .int)), some c, some (.str ways), some (.list ((wordL m l).map .str)), some (.str w), some (.str x), some (.int i)] = bInt [.bool (decide (w = "below") && (ps.getD 5 0 % 2 == 0))] :=
      ev_cb (ev_cons (ev_andV (ev_bin rfl rfl (dEq_str sw (by decide +kernel))) (ev_bin (ev_bin (ev_bin rfl rfl (pick_get (k := 5) (by omega))) rfl (dMod_int (by decide))) rfl (dEq_int _ _))) rfl) rfl
    obtain ⟨i2, e2, hi2, hi3, hi4⟩ : ∃ i2, bInt [.bool (decide (w = "below") && (ps.getD 5 0 % 2 == 0))] = some (.int i2) ∧ 0 ≤ i2 ∧ i2 ≤ 1 ∧ (w ≠ "below" → i2 = 0) := by
      by_cases zb : w = "below"
      · rw [decide_eq_true zb, Bool.true_and]
        cases (ps.getD 5 0 % 2 == 0)
        · exact ⟨0, rfl, by decide, by decide, fun _ => rfl⟩
        · exact ⟨1, rfl, by decide, by decide, fun q => absurd zb q⟩
      · rw [decide_eq_false zb, Bool.false_and]
        exact ⟨0, rfl, by decide, by decide, fun _ => rfl⟩
    rw [e2] at v2
    refine ⟨_, head (ev_ifF (q1 none) rfl (ev_ifF q2 rfl (ev_ifR q3 (ev_set v1 (ev_ret (ev_tup (ev_cons rfl (ev_cons rfl (ev_cons (ev_bin rfl v2 (dAdd_int _ _)) rfl))) (line_big (show 3 ≤ 100000 by decide)))))))), ?_⟩
    (simp only [List.mem_cons, List.not_mem_nil, or_false] at z3)
    rcases z3 with rfl | rfl
    · have z0 := hi4 (by decide)
      exact .cIs hx (by omega) (by omega)
    · exact .cBelow hx (by omega) (by omega)
  · rw [decide_eq_false z3] at q3
    refine ⟨_, head (ev_ifF (q1 none) rfl (ev_ifF q2 rfl (ev_ifF q3 rfl (ev_ret (tup2 rfl rfl))))), ?_⟩
    rcases wc with e | e | e | e | e | ⟨e, em⟩ | ⟨e, el⟩
    · exact absurd (by rw [e]; exact List.mem_cons_self) z3
    · exact absurd (by rw [e]; exact List.mem_cons_of_mem _ List.mem_cons_self) z3
    · exact absurd e z2
    · subst e
      exact .cEmpty hx
    · exact absurd e z1
    · subst e
      exact .cMine em hx
    · subst e
      exact .cLoud el hx
def binL (p j : Nat) : List Str := [("not" : Str)] ++ (List.replicate (if 2 < p then 1 else 0) [("and" : Str), "or", "and", "or"]).flatten ++ (List.replicate j [("has" : Str)]).flatten
theorem bin_mem {p j : Nat} {w : Str} (hj : j ≤ 1) (h : w ∈ binL p j) : (w = "not" ∨ (w = "has" ∧ j = 1) ∨ ((w = "and" ∨ w = "or") ∧ 2 < p)) ∧ SeqAt.shaped (.str w) = true := by
  have key : w = "not" ∨ (w = "has" ∧ j = 1) ∨ ((w = "and" ∨ w = "or") ∧ 2 < p) := by
    unfold binL at h
    (rcases List.mem_append.mp h with h | h)
    · (rcases List.mem_append.mp h with h | h)
      · exact .inl (List.mem_singleton.mp h)
      · by_cases q : 2 < p
        · rw [if_pos q] at h
          refine .inr (.inr ⟨?_, q⟩)
          (simp only [List.replicate_succ, List.replicate_zero, List.flatten_cons, List.flatten_nil, List.append_nil, List.mem_cons, List.not_mem_nil, or_false] at h)
          rcases h with h | h | h | h
          · exact .inl h
          · exact .inr h
          · exact .inl h
          · exact .inr h
        · rw [if_neg q] at h
          cases h
    · rcases Nat.le_one_iff_eq_zero_or_eq_one.mp hj with rfl | rfl
      · cases h
      · exact .inr (.inl ⟨List.mem_singleton.mp h, rfl⟩)
  refine ⟨key, ?_⟩
  rcases key with rfl | ⟨rfl, _⟩ | ⟨rfl | rfl, _⟩ <;> decide +kernel
theorem ev_repl2 {m : En → Option PyData} {env : En} {w w2 : Str} (h : m env = some (.str w)) (e : Txt.replace w "h" "" = w2) (hl : w.length ≤ 100) : mRepl "h" "" m env = some (.str w2) := by
  unfold mRepl
  rw [h, Option.bind_some]
  have z : ("" : Str).length = 0 := by decide +kernel
  have l : w.length + (w.length + 1) * ("" : Str).length ≤ 16777216 := by
    rw [z]
    omega
  show (if w.length + (w.length + 1) * ("" : Str).length ≤ 16777216 then some (PyData.str (Txt.replace w "h" "")) else none) = _
  rw [if_pos l, e]
theorem some_columns_eq {ps : List Int} {g : List Tab} (hp : 12 ≤ ps.length) (hg : ∀ t ∈ g, t.Gd) (g1 : g ≠ []) : ∃ cols : List Str, fm_law_some_columns [.list (ps.map .int), .tuple (g.map Tab.enc)] = some (.tuple (cols.map .str)) ∧ NmA cols ∧ cols ≠ [] := by
  obtain ⟨te, hte, t1⟩ := pick_any (env := [some (.list (ps.map .int)), some (.tuple (g.map Tab.enc)), none, none]) (m := mVar 1) (k := 0) (ds := g.map Tab.enc) (ps := ps) (.inr rfl) rfl rfl (by omega) (by simpa using g1)
  obtain ⟨t, ht, rfl⟩ := List.mem_map.mp hte
  have gd := hg t ht
  have few := gd.few
  have m0 := Int.emod_nonneg (ps.getD 6 0) (show (4 : Int) ≠ 0 by decide)
  have m1 := Int.emod_lt_of_pos (ps.getD 6 0) (show (0 : Int) < 4 by decide)
  obtain ⟨j, ej⟩ := Int.eq_ofNat_of_zero_le m0
  obtain ⟨fs, n1, n2, n3⟩ := new_names_eq (ps := ps.drop 1) (taken := t.cols.map Col.name) (m := j) (by omega) (by rw [List.length_drop]; omega) (Gd.names gd).shaped (by rw [List.length_map]; omega)
  refine ⟨t.cols.map Col.name ++ fs, ?_, fun x hx => ?_, fun z => Gd.some_names gd (List.append_eq_nil_iff.mp z).1⟩
  · unfold fm_law_some_columns mb_law_some_columns
    refine ev_run (d := .tuple ((t.cols.map Col.name ++ fs).map .str)) (ev_set (d := .list ((t.cols.map Col.name).map .str)) (names_lc gd t1 fun _ => rfl) (ev_ret ?_)) rfl
    refine ev_bin (a := .tuple ((t.cols.map Col.name).map .str)) (b := .tuple (fs.map .str)) (ev_cb (ev_cons rfl rfl) rfl) (ev_cb (ev_cons (ev_sl rfl (ev_part rfl) rfl (slice_ints_from (a := 1) rfl)) (ev_cons (d := .int (j : Int)) (ev_bin (ev_bin rfl rfl (pick_get (k := 6) (by omega))) rfl ?_) (ev_cons rfl rfl))) n1) ?_
    · rw [dMod_int (by decide), ej]
    · rw [dAdd_tup (by rw [List.length_map, List.length_map, List.length_map]; omega), List.map_append]
  · rcases List.mem_append.mp hx with q | q
    · exact Gd.names gd x q
    · exact n2 x q
theorem Cd.ct {g : List Tab} (hg : ∀ t ∈ g, t.Gd) {h k : Nat} {cols : List Str} {d : PyData} (q : Cd 1 1 g h k cols d) : NmA cols → ∃ c : CT, c.d = d ∧ c.Ok true ∧ c.dep ≤ k ∧ (h = 0 → CT.Ok.noHas c) := by
  induction q with
  | cYes => exact fun _ => ⟨.yes, rfl, trivial, Nat.succ_le_succ (Nat.zero_le _), fun _ => trivial⟩
  | cIs a b b2 =>
    intro hc
    obtain ⟨v, rfl⟩ := Int.eq_ofNat_of_zero_le b
    exact ⟨.eqn _ v, rfl, ⟨hc _ a, by omega⟩, Nat.succ_le_succ (Nat.zero_le _), fun _ => trivial⟩
  | cBelow a b b2 =>
    intro hc
    obtain ⟨v, rfl⟩ := Int.eq_ofNat_of_zero_le b
    exact ⟨.les _ v, rfl, ⟨hc _ a, by omega⟩, Nat.succ_le_succ (Nat.zero_le _), fun _ => trivial⟩
  | cSame a b => exact fun hc => ⟨.same _ _, rfl, ⟨hc _ a, hc _ b⟩, Nat.succ_le_succ (Nat.zero_le _), fun _ => trivial⟩
  | cEmpty a => exact fun hc => ⟨.emp _, rfl, hc _ a, Nat.succ_le_succ (Nat.zero_le _), fun _ => trivial⟩
  | cMine _ a => exact fun hc => ⟨.mine _, rfl, hc _ a, Nat.succ_le_succ (Nat.zero_le _), fun _ => trivial⟩
  | cLoud _ a => exact fun hc => ⟨.lou _, rfl, hc _ a, Nat.succ_le_succ (Nat.zero_le _), fun _ => trivial⟩
  | cNot _ ih =>
    intro hc
    obtain ⟨c, rfl, o, l, n⟩ := ih hc
    exact ⟨.neg c, rfl, o, Nat.succ_le_succ l, n⟩
  | cAnd _ _ i1 i2 =>
    intro hc
    obtain ⟨c, rfl, o, l, n⟩ := i1 hc
    obtain ⟨e, rfl, o2, l2, n2⟩ := i2 hc
    exact ⟨.con c e, rfl, ⟨o, o2⟩, Nat.succ_le_succ (Nat.max_le.mpr ⟨l, l2⟩), fun z => ⟨n z, n2 z⟩⟩
  | cOr _ _ i1 i2 =>
    intro hc
    obtain ⟨c, rfl, o, l, n⟩ := i1 hc
    obtain ⟨e, rfl, o2, l2, n2⟩ := i2 hc
    exact ⟨.dis c e, rfl, ⟨o, o2⟩, Nat.succ_le_succ (Nat.max_le.mpr ⟨l, l2⟩), fun z => ⟨n z, n2 z⟩⟩
  | cHas e a b y _ ih =>
    intro hc
    have nm := Gd.names (hg _ a)
    obtain ⟨c, rfl, o, l, n⟩ := ih nm
    exact ⟨.has _ _ _ c, rfl, ⟨rfl, (hg _ a).name, hc _ b, nm _ y, o, n rfl⟩, Nat.succ_le_succ l, fun z => by omega⟩
theorem str_of {x : Str} (h : SeqAt.shaped (.str x) = true) : PySem.PyData.strOk x = true := by
  unfold SeqAt.shaped at h
  rw [Bool.and_eq_true] at h
  have := h.1
  rw [PyData.canLay0] at this
  exact this
def wsOk (ws : List Str) : Prop := ∀ w ∈ ws, PySem.PyData.strOk w = true
theorem wsOk.nil : wsOk [] := fun _ h => absurd h List.not_mem_nil
theorem wsOk.cons {x : Str} {r : List Str} (h : PySem.PyData.strOk x = true) (h2 : wsOk r) : wsOk (x :: r) := fun w hw => by
  rcases List.mem_cons.mp hw with rfl | hw
  · exact h
  · exact h2 w hw
theorem wsOk.app {a b : List Str} (h : wsOk a) (h2 : wsOk b) : wsOk (a ++ b) := fun w hw => by
  rcases List.mem_append.mp hw with q | q
  · exact h w q
  · exact h2 w q
theorem NmOk.str {w : Str} (h : NmOk w) : PySem.PyData.strOk w = true := str_of h.shaped
/-- may be laid down, so deep -/
def Lay (n : Nat) (d : PyData) : Prop := d.canLay0 = true ∧ d.depth ≤ n
theorem Lay.shaped {n : Nat} {d : PyData} (h : Lay n d) (hn : n ≤ 64) : SeqAt.shaped d = true := by
  obtain ⟨a, b⟩ := h
  unfold SeqAt.shaped
  rw [a, decide_eq_true (by omega)]
  rfl
theorem Lay.str {n : Nat} {x : Str} (h : PySem.PyData.strOk x = true) : Lay n (.str x) := ⟨by rw [PyData.canLay0]; exact h, by rw [PyData.depth]; exact Nat.zero_le _⟩
theorem Lay.int {n : Nat} (i : Int) : Lay n (.int i) := ⟨by rw [PyData.canLay0], by rw [PyData.depth]; exact Nat.zero_le _⟩
theorem Lay.none {n : Nat} : Lay n .none := ⟨by rw [PyData.canLay0], by rw [PyData.depth]; exact Nat.zero_le _⟩
def LayA (n : Nat) (ds : List PyData) : Prop := PyData.canLayAll0 ds = true ∧ PyData.depthAll ds ≤ n
theorem LayA.nil {n : Nat} : LayA n [] := ⟨by rw [PyData.canLayAll0], by rw [PyData.depthAll]; exact Nat.zero_le _⟩
theorem LayA.cons {n : Nat} {d : PyData} {ds : List PyData} (h : Lay n d) (h2 : LayA n ds) : LayA n (d :: ds) := by
  obtain ⟨a, b⟩ := h
  obtain ⟨a2, b2⟩ := h2
  refine ⟨by rw [PyData.canLayAll0, a, a2]; rfl, ?_⟩
  rw [PyData.depthAll]
  omega
theorem Lay.tup {n : Nat} {ds : List PyData} (h : LayA n ds) : Lay (n + 1) (.tuple ds) := by
  obtain ⟨a, b⟩ := h
  refine ⟨by rw [PyData.canLay0]; exact a, ?_⟩
  rw [PyData.depth]
  omega
theorem Lay.lst {n : Nat} {ds : List PyData} (h : LayA n ds) : Lay (n + 1) (.list ds) := by
  obtain ⟨a, b⟩ := h
  refine ⟨by rw [PyData.canLay0]; exact a, ?_⟩
  rw [PyData.depth]
  omega
theorem Lay.mono {n m : Nat} {d : PyData} (h : Lay n d) (l : n ≤ m) : Lay m d := ⟨h.1, Nat.le_trans h.2 l⟩
theorem CT.lay {hh : Bool} : ∀ c : CT, c.Ok hh → Lay c.dep c.d
  | .yes, _ => .tup (.cons (.str (by decide +kernel)) .nil)
  | .eqn _ _, o => .tup (.cons (.str (by decide +kernel)) (.cons (.str o.1.str) (.cons (.int _) .nil)))
  | .les _ _, o => .tup (.cons (.str (by decide +kernel)) (.cons (.str o.1.str) (.cons (.int _) .nil)))
  | .same _ _, o => .tup (.cons (.str (by decide +kernel)) (.cons (.str o.1.str) (.cons (.str o.2.str) .nil)))
  | .mine _, o => .tup (.cons (.str (by decide +kernel)) (.cons (.str (NmOk.str o)) .nil))
  | .emp _, o => .tup (.cons (.str (by decide +kernel)) (.cons (.str (NmOk.str o)) .nil))
  | .lou _, o => .tup (.cons (.str (by decide +kernel)) (.cons (.str (NmOk.str o)) .nil))
  | .neg a, o => .tup (.cons (.str (by decide +kernel)) (.cons (CT.lay a o) .nil))
  | .con a b, o => .tup (.cons (.str (by decide +kernel)) (.cons ((CT.lay a o.1).mono (Nat.le_max_left _ _)) (.cons ((CT.lay b o.2).mono (Nat.le_max_right _ _)) .nil)))
  | .dis a b, o => .tup (.cons (.str (by decide +kernel)) (.cons ((CT.lay a o.1).mono (Nat.le_max_left _ _)) (.cons ((CT.lay b o.2).mono (Nat.le_max_right _ _)) .nil)))
  | .has t x y a, o => .tup (.cons (.str (by decide +kernel)) (.cons (.str o.2.1.str) (.cons (.str o.2.2.1.str) (.cons (.str o.2.2.2.1.str) (.cons (CT.lay a o.2.2.2.2.1) .nil)))))
theorem dNe_refl {d : PyData} (h : SeqAt.shaped d = true) : dNe d d = some (.bool false) := by
  unfold dNe
  rw [if_pos ⟨h, h⟩, PySem.SeqAt.eqv_refl d (SeqAt.canLay_of_shaped h)]
  rfl
theorem lt_test {i : Nat} {k : Int} {n : Nat} {env : En} (hv : mVar i env = some (.int (n : Int))) : mTst (mBin dLt (mVar i) (mC (.int k))) env = some (decide ((n : Int) < k)) := ev_tst (ev_bin hv rfl (dLt_int _ _))
theorem lt_yes {n : Nat} {k : Nat} (h : n < k) : decide ((n : Int) < (k : Int)) = true := decide_eq_true (by omega)
theorem lt_no {n : Nat} {k : Nat} (h : ¬ n < k) : decide ((n : Int) < (k : Int)) = false := decide_eq_false (by omega)
theorem kin_lay : LayA 0 [PyData.str "NoText", .str "ValueError"] := .cons (.str (by decide +kernel)) (.cons (.str (by decide +kernel)) .nil)
inductive BT where
  | atm (c : CT) | neg (i : Nat) (a : BT) | con (i : Nat) (a : BT) (j : Nat) (b : BT) | dis (i : Nat) (a : BT) (j : Nat) (b : BT) | has (t x y : Str) (i : Nat) (a : BT)
def brk : Nat → List Str → List Str
  | 0, ws => ws
  | i + 1, ws => ("(" : Str) :: (brk i ws ++ [(")" : Str)])
def BT.c : BT → CT
  | .atm c => c
  | .neg _ a => .neg a.c
  | .con _ a _ b => .con a.c b.c
  | .dis _ a _ b => .dis a.c b.c
  | .has t x y _ a => .has t x y a.c
def BT.ws : BT → List Str
  | .atm c => c.ws
  | .neg i a => ("not" : Str) :: brk (i + 1) a.ws
  | .con i a j b => brk (i + 1) a.ws ++ ("and" : Str) :: brk (j + 1) b.ws
  | .dis i a j b => brk (i + 1) a.ws ++ ("or" : Str) :: brk (j + 1) b.ws
  | .has t x y i a => [("has" : Str), t, x, y, ("(" : Str)] ++ (brk i a.ws ++ [(")" : Str)])
/-- how many brackets stand within one another, has's own not counted -/
def BT.most : BT → Nat
  | .atm _ => 0
  | .neg i a => i + 1 + a.most
  | .con i a j b => max (i + 1 + a.most) (j + 1 + b.most)
  | .dis i a j b => max (i + 1 + a.most) (j + 1 + b.most)
  | .has _ _ _ i a => i + a.most
def CT.isAtm : CT → Prop
  | .neg _ => False
  | .con _ _ => False
  | .dis _ _ => False
  | .has _ _ _ _ => False
  | _ => True
def BT.Ats : BT → Prop
  | .atm c => c.isAtm
  | .neg _ a => a.Ats
  | .con _ a _ b => a.Ats ∧ b.Ats
  | .dis _ a _ b => a.Ats ∧ b.Ats
  | .has _ _ _ _ a => a.Ats
/-- read as told, or refused because of brackets -/
def Rq (W : List Str) (r : Option ((PyData × List PyData) ⊕ Str)) (c : CT) (p len m br M : Nat) (wh : Bool) : Prop :=
  (br + M ≤ 20 → Res W r c p len m br wh) ∧ (20 < br + M → ∃ c', 9 ≤ c'.parts ∧ Res W r c' p len m br wh)
def Lq (W : List Str) (wd : Str) (fn : StF) (c : CT) (p len m br M : Nat) (wh : Bool) : Prop :=
  (br + M ≤ 20 → Lop W wd fn c p len m br wh) ∧ (20 < br + M → ∃ c', 9 ≤ c'.parts ∧ Lop W wd fn c' p len m br wh)
def nine : CT := .neg (.neg (.neg (.neg (.neg (.neg (.neg (.neg .yes)))))))
theorem nine_parts : 9 ≤ nine.parts := by decide
theorem res_far {W : List Str} {r : Option ((PyData × List PyData) ⊕ Str)} {c : CT} {p len m br : Nat} {wh : Bool} (h : 8 < m) : Res W r c p len m br wh := ⟨fun z => by omega, fun z => by omega⟩
section
variable {W : List Str} (h : W.length ≤ 100000) (sh : ∀ w ∈ W, SeqAt.shaped (.str w) = true) {wd : Str} {fn : StF} {p len m br M : Nat} {wh : Bool} {c a b : CT}
theorem lq_first (r : Rq W (fn [RS W p, BS m br wh] []) c p len m br M wh) : Lq W wd fn c p len m br M wh :=
  ⟨fun z => lop_first (r.1 z), fun z => by
    obtain ⟨c', h1, h2⟩ := r.2 z
    exact ⟨c', h1, lop_first h2⟩⟩
include h sh
theorem lq_end (l : Lq W wd fn c p len m br M wh) (hs : SeqAt.shaped (.str wd) = true) (hw : W[p + len]? ≠ some wd) : Rq W (runS 3 [0, 1] (mbW wd fn) [RS W p, BS m br wh] []) c p len m br M wh :=
  ⟨fun z => lop_end h sh (l.1 z) hs hw, fun z => by
    obtain ⟨c', h1, h2⟩ := l.2 z
    exact ⟨c', h1, lop_end h sh h2 hs hw⟩⟩
/-- two parts, each in brackets -/
theorem lq_step {la lb M1 M2 : Nat} (mk : CT → CT → CT) (hd : ∀ a b, (mk a b).d = .tuple [.str wd, a.d, b.d]) (hp : ∀ a b, (mk a b).parts = a.parts + b.parts + 1) (l : Lq W wd fn a p la m br M1 wh) (hw : W[p + la]? = some wd) (r : Rq W (fn [RS W (p + la + 1), BS (m + a.parts + 1) br wh] []) b (p + la + 1) lb (m + a.parts + 1) br M2 wh) : Lq W wd fn (mk a b) p (la + 1 + lb) m br (max M1 M2) wh := by
  have m1 := Nat.le_max_left M1 M2
  have m2 := Nat.le_max_right M1 M2
  refine ⟨fun z => lop_step h sh (l.1 (by omega)) hw (r.1 (by omega)) (hd _ _) (hp _ _), fun z => ?_⟩
  by_cases q : br + M1 ≤ 20
  · have : max M1 M2 ≤ M1 ∨ max M1 M2 ≤ M2 := (Nat.le_total M1 M2).elim (fun e => .inr (by rw [Nat.max_eq_right e]; exact Nat.le_refl _)) fun e => .inl (by rw [Nat.max_eq_left e]; exact Nat.le_refl _)
    obtain ⟨c', h1, h2⟩ := r.2 (by omega)
    exact ⟨mk a c', by rw [hp]; omega, lop_step h sh (l.1 q) hw h2 (hd _ _) (hp _ _)⟩
  · obtain ⟨c', h1, h2⟩ := l.2 (by omega)
    exact ⟨mk c' b, by rw [hp]; omega, lop_step h sh h2 hw (res_far (by omega)) (hd _ _) (hp _ _)⟩
omit h sh in
theorem enter_no {m : Nat} {wh : Bool} : fs_Bounds_enter_bracket [BS m 20 wh] [] = some (.inr "NoText") := rfl
omit h sh in
theorem br_no {q : Nat} : fs_take_bracket fn [RS W q, BS m 20 wh] [] = some (.inr "NoText") := by
  unfold fs_take_bracket mb_take_bracket
  exact ev_runSx (env := [some (RS W q), none, none]) (y_seqX (y_expX (mb_no (r := [none]) rfl enter_no)))
theorem br_rq {q : Nat} (hb : br ≤ 20) (r : br + 1 ≤ 20 → Rq W (fs_take_or fn [RS W q, BS m (br + 1) wh] []) c q len m (br + 1) M wh) (hw : W[q + len]? = some ")") : Rq W (fs_take_bracket fn [RS W q, BS m br wh] []) c q (len + 1) m br (M + 1) wh := by
  refine ⟨fun z => br_res h sh ((r (by omega)).1 (by omega)) hw (by omega), fun z => ?_⟩
  by_cases z2 : br + 1 ≤ 20
  · obtain ⟨c', h1, h2⟩ := (r z2).2 (by omega)
    exact ⟨c', h1, br_res h sh h2 hw z2⟩
  · obtain rfl : br = 20 := by omega
    exact ⟨nine, nine_parts, fun z => absurd z (by have := nine_parts; omega), fun _ _ => br_no⟩
variable {n : Nat}
theorem al_br (hw : W[p]? = some "(") (r : Rq W (fs_take_bracket (fs_take_alone n) [RS W (p + 1), BS m br wh] []) c (p + 1) len m br M wh) : Rq W (fs_take_alone (n + 1) [RS W p, BS m br wh] []) c p (len + 1) m br M wh :=
  ⟨fun z => alone_br h sh hw (r.1 z), fun z => by
    obtain ⟨c', h1, h2⟩ := r.2 z
    exact ⟨c', h1, alone_br h sh hw h2⟩⟩
theorem al_not (hw : W[p]? = some "not") (r : Rq W (fs_take_alone n [RS W (p + 1), BS (m + 1) br wh] []) a (p + 1) len (m + 1) br M wh) : Rq W (fs_take_alone (n + 1) [RS W p, BS m br wh] []) (.neg a) p (len + 1) m br M wh :=
  ⟨fun z => alone_not h sh hw (r.1 z), fun z => by
    obtain ⟨c', h1, h2⟩ := r.2 z
    exact ⟨.neg c', Nat.le_succ_of_le h1, alone_not h sh hw h2⟩⟩
theorem al_has {t x y : Str} (hw : W[p]? = some "has") (h0 : W[p + 1]? = some t) (k0 : NmOk t) (h1 : W[p + 2]? = some x) (k1 : NmOk x) (h2 : W[p + 3]? = some y) (k2 : NmOk y) (h3 : W[p + 4]? = some "(") (r : Rq W (fs_take_or (fs_take_alone n) [RS W (p + 5), BS (m + 1) br true] []) a (p + 5) len (m + 1) br M true) (he : W[p + 5 + len]? = some ")") : Rq W (fs_take_alone (n + 1) [RS W p, BS m br false] []) (.has t x y a) p (len + 6) m br M false := by
  have e4 : p + 1 + 4 = p + 5 := by omega
  have one : ∀ c : CT, Res W (fs_take_or (fs_take_alone n) [RS W (p + 5), BS (m + 1) br true] []) c (p + 5) len (m + 1) br true → Res W (fs_take_alone (n + 1) [RS W p, BS m br false] []) (.has t x y c) p (len + 6) m br false := fun c r => by
    have hr := has_res h sh (q := p + 1) h0 k0 h1 k1 h2 k2 h3 (by rw [e4]; exact r) (by rw [e4]; exact he)
    exact alone_has h sh (p := p) (m := m) (br := br) (wh := false) (len := len + 5) hw hr
  exact ⟨fun z => one a (r.1 z), fun z => by
    obtain ⟨c', h1, h2⟩ := r.2 z
    exact ⟨.has t x y c', Nat.le_succ_of_le h1, one c' h2⟩⟩
end
def OrI (W : List Str) (t : BT) (i : Nat) : Prop := ∀ n p m br wh, 21 - br + t.c.dep ≤ n → br ≤ 20 → (wh = true → CT.Ok.noHas t.c) → Pre W p (brk i t.ws) → W[p + (brk i t.ws).length]? ≠ some "and" → W[p + (brk i t.ws).length]? ≠ some "or" → Rq W (fs_take_or (fs_take_alone n) [RS W p, BS m br wh] []) t.c p (brk i t.ws).length m br (i + t.most) wh
def AlI (W : List Str) (t : BT) (i : Nat) : Prop := ∀ n p m br wh, 21 - br + t.c.dep ≤ n → br ≤ 20 → (wh = true → CT.Ok.noHas t.c) → Pre W p (brk (i + 1) t.ws) → Rq W (fs_take_alone n [RS W p, BS m br wh] []) t.c p (brk (i + 1) t.ws).length m br (i + 1 + t.most) wh
section
variable {W : List Str} (h : W.length ≤ 100000) (sh : ∀ w ∈ W, SeqAt.shaped (.str w) = true) {wd : Str} {fn : StF} {n p len m br M : Nat} {wh : Bool} {c a b : CT}
include h sh
theorem and_fin (r : Rq W (fn [RS W p, BS m br wh] []) c p len m br M wh) (h5 : W[p + len]? ≠ some "and") : Rq W (fs_take_and fn [RS W p, BS m br wh] []) c p len m br M wh := by
  rw [and_is]
  exact lq_end h sh (lq_first r) (signs_sh _ (by simp)) h5
theorem or_fin (r : Rq W (fs_take_and fn [RS W p, BS m br wh] []) c p len m br M wh) (h6 : W[p + len]? ≠ some "or") : Rq W (fs_take_or fn [RS W p, BS m br wh] []) c p len m br M wh := by
  rw [or_is]
  exact lq_end h sh (lq_first r) (signs_sh _ (by simp)) h6
theorem al_of {t : BT} {i : Nat} (o : OrI W t i) : AlI W t i := fun n p m br wh hf hb hn hp => by
  obtain ⟨n, rfl⟩ := Nat.exists_eq_succ_of_ne_zero (show n ≠ 0 by omega)
  have hp : Pre W p (("(" : Str) :: (brk i t.ws ++ [(")" : Str)])) := hp
  obtain ⟨w0, hp⟩ := hp.head
  obtain ⟨p1, p2⟩ := hp.app
  have w1 := p2.head.1
  have r := al_br h sh w0 (br_rq h sh (M := i + t.most) hb (fun z => o n (p + 1) m (br + 1) wh (by omega) z hn p1 (by rw [w1]; decide +kernel) (by rw [w1]; decide +kernel)) w1)
  rw [show (brk (i + 1) t.ws).length = (brk i t.ws).length + 1 + 1 by simp [brk], show i + 1 + t.most = i + t.most + 1 by omega]
  exact r
theorem all_or {t : BT} (o : OrI W t 0) : ∀ i, OrI W t i
  | 0 => o
  | i + 1 => fun n p m br wh hf hb hn hp h5 h6 => or_fin h sh (and_fin h sh (al_of h sh (all_or o i) n p m br wh hf hb hn hp) h5) h6
theorem atm_res {hh : Bool} : ∀ (c : CT), c.isAtm → c.Ok hh → ∀ n p m br wh, 1 ≤ n → Pre W p c.ws → Res W (fs_take_alone n [RS W p, BS m br wh] []) c p c.ws.length m br wh := fun c at_ ok n p m br wh hn h5 => by
  obtain ⟨n, rfl⟩ := Nat.exists_eq_succ_of_ne_zero (show n ≠ 0 by omega)
  cases c with
  | yes => exact alone_yes h sh h5.head.1
  | eqn c v =>
    obtain ⟨w0, h5⟩ := h5.head
    obtain ⟨w1, h5⟩ := h5.head
    obtain ⟨w2, h5⟩ := h5.head
    exact alone_col h sh w0 ok.1 rfl (about_eqn W p h w0 ok.1 w1 w2 ok.2)
  | les c v =>
    obtain ⟨w0, h5⟩ := h5.head
    obtain ⟨w1, h5⟩ := h5.head
    obtain ⟨w2, h5⟩ := h5.head
    exact alone_col h sh w0 ok.1 rfl (about_les W p h w0 ok.1 w1 w2 ok.2)
  | same c o =>
    obtain ⟨w0, h5⟩ := h5.head
    obtain ⟨w1, h5⟩ := h5.head
    obtain ⟨w2, h5⟩ := h5.head
    exact alone_col h sh w0 ok.1 rfl (about_same W p h w0 ok.1 w1 w2 ok.2)
  | mine c =>
    obtain ⟨w0, h5⟩ := h5.head
    obtain ⟨w1, h5⟩ := h5.head
    exact alone_col h sh w0 ok rfl (about_one W p h w0 ok w1 (by simp))
  | emp c =>
    obtain ⟨w0, h5⟩ := h5.head
    obtain ⟨w1, h5⟩ := h5.head
    exact alone_col h sh w0 ok rfl (about_one W p h w0 ok w1 (by simp))
  | lou c =>
    obtain ⟨w0, h5⟩ := h5.head
    obtain ⟨w1, h5⟩ := h5.head
    exact alone_col h sh w0 ok rfl (about_one W p h w0 ok w1 (by simp))
  | neg a => exact at_.elim
  | con a b => exact at_.elim
  | dis a b => exact at_.elim
  | has t x y a => exact at_.elim
theorem rd_bt {hh : Bool} : ∀ t : BT, t.c.Ok hh → t.Ats → OrI W t 0
  | .atm c, ok, at_ => fun n p m br wh hf hb hn hp h5 h6 => by
    have r := atm_res h sh c at_ ok n p m br wh (by have := CT.dep_pos h sh c; have hf : 21 - br + c.dep ≤ n := hf; omega) hp
    have rq : Rq W (fs_take_alone n [RS W p, BS m br wh] []) c p c.ws.length m br 0 wh := ⟨fun _ => r, fun z => by omega⟩
    exact or_fin h sh (and_fin h sh rq h5) h6
  | .neg i a, ok, at_ => fun n p m br wh hf hb hn hp h5 h6 => by
    have ra := al_of h sh (all_or h sh (rd_bt a ok at_) i)
    have hf : 21 - br + (a.c.dep + 1) ≤ n := hf
    obtain ⟨n, rfl⟩ := Nat.exists_eq_succ_of_ne_zero (show n ≠ 0 by omega)
    have hp : Pre W p (("not" : Str) :: brk (i + 1) a.ws) := hp
    obtain ⟨w0, hp⟩ := hp.head
    have r := al_not h sh w0 (ra n (p + 1) (m + 1) br wh (by omega) hb hn hp)
    rw [Nat.zero_add]
    exact or_fin h sh (and_fin h sh r h5) h6
  | .con i a j b, ok, at_ => fun n p m br wh hf hb hn hp h5 h6 => by
    have ra := al_of h sh (all_or h sh (rd_bt a ok.1 at_.1) i)
    have rb := al_of h sh (all_or h sh (rd_bt b ok.2 at_.2) j)
    have hf : 21 - br + (max a.c.dep b.c.dep + 1) ≤ n := hf
    have m1 := Nat.le_max_left a.c.dep b.c.dep
    have m2 := Nat.le_max_right a.c.dep b.c.dep
    obtain ⟨p1, p2⟩ := Pre.app (a := brk (i + 1) a.ws) (b := ("and" : Str) :: brk (j + 1) b.ws) hp
    obtain ⟨w0, p3⟩ := p2.head
    have r := lq_step h sh CT.con (fun _ _ => rfl) (fun _ _ => rfl) (lq_first (wd := "and") (ra n p m br wh (by omega) hb (fun z => (hn z).1) p1)) w0 (rb n _ (m + a.c.parts + 1) br wh (by omega) hb (fun z => (hn z).2) p3)
    have e : (brk (i + 1) a.ws).length + 1 + (brk (j + 1) b.ws).length = (brk 0 (BT.con i a j b).ws).length := by
      show _ = (brk (i + 1) a.ws ++ ("and" : Str) :: brk (j + 1) b.ws).length
      rw [List.length_append, List.length_cons]
      omega
    rw [e] at r
    rw [Nat.zero_add]
    have r2 := lq_end h sh r (signs_sh _ (by simp)) h5
    rw [← and_is] at r2
    exact or_fin h sh r2 h6
  | .dis i a j b, ok, at_ => fun n p m br wh hf hb hn hp h5 h6 => by
    have ra := al_of h sh (all_or h sh (rd_bt a ok.1 at_.1) i)
    have rb := al_of h sh (all_or h sh (rd_bt b ok.2 at_.2) j)
    have hf : 21 - br + (max a.c.dep b.c.dep + 1) ≤ n := hf
    have m1 := Nat.le_max_left a.c.dep b.c.dep
    have m2 := Nat.le_max_right a.c.dep b.c.dep
    obtain ⟨p1, p2⟩ := Pre.app (a := brk (i + 1) a.ws) (b := ("or" : Str) :: brk (j + 1) b.ws) hp
    obtain ⟨w0, p3⟩ := p2.head
    have e : (brk (i + 1) a.ws).length + 1 + (brk (j + 1) b.ws).length = (brk 0 (BT.dis i a j b).ws).length := by
      show _ = (brk (i + 1) a.ws ++ ("or" : Str) :: brk (j + 1) b.ws).length
      rw [List.length_append, List.length_cons]
      omega
    have r1 := and_fin h sh (ra n p m br wh (by omega) hb (fun z => (hn z).1) p1) (by rw [w0]; decide +kernel)
    have r2 := and_fin h sh (rb n _ (m + a.c.parts + 1) br wh (by omega) hb (fun z => (hn z).2) p3) (by
      rw [show p + (brk (i + 1) a.ws).length + 1 + (brk (j + 1) b.ws).length = p + ((brk (i + 1) a.ws).length + 1 + (brk (j + 1) b.ws).length) by omega, e]
      exact h5)
    have r := lq_step h sh CT.dis (fun _ _ => rfl) (fun _ _ => rfl) (lq_first (wd := "or") r1) w0 r2
    rw [e] at r
    rw [Nat.zero_add]
    have r3 := lq_end h sh r (signs_sh _ (by simp)) h6
    rw [← or_is] at r3
    exact r3
  | .has t x y i a, ok, at_ => fun n p m br wh hf hb hn hp h5 h6 => by
    obtain ⟨_, k0, k1, k2, k3, k4⟩ := ok
    have ra := all_or h sh (rd_bt a k3 at_) i
    have hf : 21 - br + (a.c.dep + 1) ≤ n := hf
    have wf : wh = false := by
      cases wh with
      | false => rfl
      | true => exact (hn rfl).elim
    subst wf
    obtain ⟨n, rfl⟩ := Nat.exists_eq_succ_of_ne_zero (show n ≠ 0 by omega)
    have hp : Pre W p (("has" : Str) :: t :: x :: y :: ("(" : Str) :: (brk i a.ws ++ [(")" : Str)])) := hp
    obtain ⟨w0, hp⟩ := hp.head
    obtain ⟨w1, hp⟩ := hp.head
    obtain ⟨w2, hp⟩ := hp.head
    obtain ⟨w3, hp⟩ := hp.head
    obtain ⟨w4, hp⟩ := hp.head
    obtain ⟨p1, p2⟩ := hp.app
    have w5 := p2.head.1
    have r := al_has h sh w0 w1 k0 w2 k1 w3 k2 w4 (ra n (p + 5) (m + 1) br true (by omega) hb (fun _ => k4) p1 (by rw [show p + 5 + (brk i a.ws).length = p + 1 + 1 + 1 + 1 + 1 + (brk i a.ws).length by omega, w5]; decide +kernel) (by rw [show p + 5 + (brk i a.ws).length = p + 1 + 1 + 1 + 1 + 1 + (brk i a.ws).length by omega, w5]; decide +kernel)) (by rw [show p + 5 + (brk i a.ws).length = p + 1 + 1 + 1 + 1 + 1 + (brk i a.ws).length by omega]; exact w5)
    have e : (brk i a.ws).length + 6 = (brk 0 (BT.has t x y i a).ws).length := by
      show _ = ([("has" : Str), t, x, y, ("(" : Str)] ++ (brk i a.ws ++ [(")" : Str)])).length
      simp
    rw [e] at r
    rw [Nat.zero_add]
    exact or_fin h sh (and_fin h sh r h5) h6
end
def CT.hd : CT → Str
  | .yes => "yes"
  | .eqn _ _ => "is"
  | .les _ _ => "below"
  | .same _ _ => "same"
  | .mine _ => "mine"
  | .emp _ => "empty"
  | .lou _ => "loud"
  | .neg _ => "not"
  | .con _ _ => "and"
  | .dis _ _ => "or"
  | .has _ _ _ _ => "has"
theorem CT.hd_in (c : CT) : c.hd ∈ wordsH := by
  cases c <;> simp [CT.hd, wordsH]
theorem hd_at (c : CT) : dIx c.d (.int 0) = some (.str c.hd) := by
  cases c <;> rfl
def repL : Nat → Str
  | 0 => Str.empty
  | i + 1 => ("( " : Str) ++ repL i
def repR : Nat → Str
  | 0 => Str.empty
  | i + 1 => (" )" : Str) ++ repR i
theorem mulL : ∀ i : Nat, i < 23 → Txt.mul "( " (i : Int) = repL i := by decide +kernel
theorem mulR : ∀ i : Nat, i < 23 → Txt.mul " )" (i : Int) = repR i := by decide +kernel
theorem repR_end : ∀ i, repR i ++ (" )" : Str) = repR (i + 1)
  | 0 => by decide +kernel
  | i + 1 => by
    show (" )" : Str) ++ repR i ++ (" )" : Str) = (" )" : Str) ++ repR (i + 1)
    rw [s_assoc, repR_end i]
theorem brk_ne {ws : List Str} (h : ws ≠ []) : ∀ i, brk i ws ≠ []
  | 0 => h
  | _ + 1 => List.cons_ne_nil _ _
theorem glue_brk1 {ws : List Str} (h : ws ≠ []) : glue (("(" : Str) :: (ws ++ [(")" : Str)])) = ("( " : Str) ++ (glue ws ++ (" )" : Str)) := by
  rw [glue_cons (by simp), glue_app h (by simp)]
  show ("(" : Str) ++ (sp ++ (glue ws ++ (sp ++ ")"))) = _
  rw [← s_assoc, show ("(" : Str) ++ sp = "( " by decide +kernel, show sp ++ (")" : Str) = " )" by decide +kernel]
theorem glue_brk {ws : List Str} (h : ws ≠ []) : ∀ i, glue (brk i ws) = repL i ++ (glue ws ++ repR i)
  | 0 => by
    show glue ws = Str.empty ++ (glue ws ++ Str.empty)
    rw [e_app, app_e]
  | i + 1 => by
    show glue (("(" : Str) :: (brk i ws ++ [(")" : Str)])) = ("( " : Str) ++ repL i ++ (glue ws ++ repR (i + 1))
    rw [glue_brk1 (brk_ne h i), glue_brk h i, ← repR_end]
    simp only [s_assoc]
theorem repL_len : ∀ i, (repL i).length = 2 * i
  | 0 => rfl
  | i + 1 => by
    show (("( " : Str) ++ repL i).length = _
    rw [s_len, repL_len i, show ("( " : Str).length = 2 by decide +kernel]
    omega
theorem repR_len : ∀ i, (repR i).length = 2 * i
  | 0 => rfl
  | i + 1 => by
    show ((" )" : Str) ++ repR i).length = _
    rw [s_len, repR_len i, show (" )" : Str).length = 2 by decide +kernel]
    omega
theorem brk_glen {ws : List Str} (h : ws ≠ []) (i : Nat) : (glue (brk i ws)).length = (glue ws).length + 4 * i := by
  rw [glue_brk h, s_len, s_len, repL_len, repR_len]
  omega
theorem BT.ws_ne : ∀ t : BT, t.ws ≠ []
  | .atm c => c.ws_ne
  | .neg _ _ => List.cons_ne_nil _ _
  | .con _ _ _ _ => by simp [BT.ws]
  | .dis _ _ _ _ => by simp [BT.ws]
  | .has _ _ _ _ _ => by simp [BT.ws]
theorem brk_wd {ws : List Str} (h : ∀ w ∈ ws, Wd w) : ∀ i, ∀ w ∈ brk i ws, Wd w
  | 0 => h
  | i + 1 => fun w hw => by
    have hw : w ∈ ("(" : Str) :: (brk i ws ++ [(")" : Str)]) := hw
    (simp only [List.mem_cons, List.mem_append, List.not_mem_nil, or_false] at hw)
    rcases hw with rfl | hw | rfl
    · exact wd_sgn (by simp)
    · exact brk_wd h i w hw
    · exact wd_sgn (by simp)
theorem BT.wds {hh : Bool} : ∀ t : BT, t.c.Ok hh → ∀ w ∈ t.ws, Wd w
  | .atm c, ok => CT.wds c ok
  | .neg i a, ok => fun w hw => by
    rcases List.mem_cons.mp hw with rfl | hw
    · exact wd_sgn (by simp)
    · exact brk_wd (BT.wds a ok) (i + 1) w hw
  | .con i a j b, ok => fun w hw => by
    rcases List.mem_append.mp hw with hw | hw
    · exact brk_wd (BT.wds a ok.1) (i + 1) w hw
    · rcases List.mem_cons.mp hw with rfl | hw
      · exact wd_sgn (by simp)
      · exact brk_wd (BT.wds b ok.2) (j + 1) w hw
  | .dis i a j b, ok => fun w hw => by
    rcases List.mem_append.mp hw with hw | hw
    · exact brk_wd (BT.wds a ok.1) (i + 1) w hw
    · rcases List.mem_cons.mp hw with rfl | hw
      · exact wd_sgn (by simp)
      · exact brk_wd (BT.wds b ok.2) (j + 1) w hw
  | .has t x y i a, ok => fun w hw => by
    obtain ⟨_, k0, k1, k2, k3, _⟩ := ok
    have ia := brk_wd (BT.wds a k3) i
    have hw : w ∈ ("has" : Str) :: t :: x :: y :: ("(" : Str) :: (brk i a.ws ++ [(")" : Str)]) := hw
    (simp only [List.mem_cons, List.mem_append, List.not_mem_nil, or_false] at hw)
    rcases hw with rfl | rfl | rfl | rfl | rfl | hw | rfl
    · exact wd_sgn (by simp)
    · exact k0.wd
    · exact k1.wd
    · exact k2.wd
    · exact wd_sgn (by simp)
    · exact ia w hw
    · exact wd_sgn (by simp)
theorem split_ws {ws : List Str} (h : ws ≠ []) (wd : ∀ w ∈ ws, Wd w) : Txt.split (glue ws) " " = ws := by
  have e : Txt.join " " ws = glue ws := by
    rw [TL.join_eq]
    exact join_glue ws
  rw [← e]
  exact TL.split_join (s := 32) (S := []) (by decide +kernel) (by decide +kernel) h fun p hp => (wd p hp).2
theorem glue_words : ∀ ws : List Str, ws.length ≤ (glue ws).length + 1
  | [] => Nat.zero_le _
  | [_] => Nat.le_add_left _ _
  | x :: y :: r => by
    have := glue_words (y :: r)
    have e : glue (x :: y :: r) = x ++ (sp ++ glue (y :: r)) := rfl
    rw [e, s_len, s_len, show sp.length = 1 by decide +kernel]
    (simp only [List.length_cons] at this ⊢)
    omega
/-- an atom's text is short -/
theorem atm_len {hh : Bool} : ∀ c : CT, c.isAtm → c.Ok hh → c.txt.length ≤ 40 := fun c at_ ok => by
  have := CT.txt_len c ok
  cases c with
  | neg a => exact at_.elim
  | con a b => exact at_.elim
  | dis a b => exact at_.elim
  | has t x y a => exact at_.elim
  | _ => simpa [CT.sz] using this
theorem ev_par1 {i j : Nat} {ms : En → Option (List PyData)} {env : En} {d f : PyData} (h : ms env = some [d, f]) : mPar i j ms env = some (.nx ((env.set i (some d)).set j (some f))) := by
  unfold mPar
  rw [h]
  rfl
theorem mul_L {i : Nat} (h : i ≤ 22) : dMulT (.str "( ") (.int (i : Int)) = some (.str (repL i)) := by
  show (if ("( " : Str).length ≤ 16 ∧ (0 : Int) ≤ i ∧ (i : Int) ≤ 1048576 then some (PyData.str (Txt.mul "( " (i : Int))) else none) = _
  rw [if_pos ⟨by decide +kernel, by omega, by omega⟩, mulL i (by omega)]
theorem mul_R {i : Nat} (h : i ≤ 22) : dMulT (.str " )") (.int (i : Int)) = some (.str (repR i)) := by
  show (if (" )" : Str).length ≤ 16 ∧ (0 : Int) ≤ i ∧ (i : Int) ≤ 1048576 then some (PyData.str (Txt.mul " )" (i : Int))) else none) = _
  rw [if_pos ⟨by decide +kernel, by omega, by omega⟩, mulR i (by omega)]
theorem many_eq {env : En} {ps : List Int} (hv : mVar 1 env = some (.list (ps.map .int))) (hp : 2 ≤ ps.length) : ∃ i : Nat, i ≤ 22 ∧ mBin dIx (mLst (mCons (mC (.int 0)) (mCons (mC (.int 0)) (mCons (mC (.int 1)) (mCons (mC (.int 2)) (mCons (mBin dMod (mBin dIx (mVar 1) (mC (.int 0))) (mC (.int 7))) (mCons (mBin dMod (mBin dIx (mVar 1) (mC (.int 0))) (mC (.int 23))) mNil))))))) (mBin dMod (mBin dIx (mVar 1) (mC (.int 1))) (mC (.int 6))) env = some (.int (i : Int)) := by
  have m0 := Int.emod_nonneg (ps.getD 1 0) (show (6 : Int) ≠ 0 by decide)
  have m1 := Int.emod_lt_of_pos (ps.getD 1 0) (show (0 : Int) < 6 by decide)
  obtain ⟨v, hv2, ev⟩ := atI_in (xs := [PyData.int 0, .int 0, .int 1, .int 2, .int (ps.getD 0 0 % 7), .int (ps.getD 0 0 % 23)]) m0 m1
  have a0 := Int.emod_nonneg (ps.getD 0 0) (show (7 : Int) ≠ 0 by decide)
  have a1 := Int.emod_lt_of_pos (ps.getD 0 0) (show (0 : Int) < 7 by decide)
  have b0 := Int.emod_nonneg (ps.getD 0 0) (show (23 : Int) ≠ 0 by decide)
  have b1 := Int.emod_lt_of_pos (ps.getD 0 0) (show (0 : Int) < 23 by decide)
  have g0 : mBin dIx (mVar 1) (mC (.int 0)) env = some (.int (ps.getD 0 0)) := ev_bin hv rfl (pick_get (k := 0) (by omega))
  have g1 : mBin dIx (mVar 1) (mC (.int 1)) env = some (.int (ps.getD 1 0)) := ev_bin hv rfl (pick_get (k := 1) (by omega))
  obtain ⟨i, hi, rfl⟩ : ∃ i : Nat, i ≤ 22 ∧ v = .int (i : Int) := by
    (simp only [List.mem_cons, List.not_mem_nil, or_false] at hv2)
    rcases hv2 with rfl | rfl | rfl | rfl | rfl | rfl
    · exact ⟨0, by decide, rfl⟩
    · exact ⟨0, by decide, rfl⟩
    · exact ⟨1, by decide, rfl⟩
    · exact ⟨2, by decide, rfl⟩
    · obtain ⟨q, e⟩ := Int.eq_ofNat_of_zero_le a0
      exact ⟨q, by omega, by rw [e]⟩
    · obtain ⟨q, e⟩ := Int.eq_ofNat_of_zero_le b0
      exact ⟨q, by omega, by rw [e]⟩
  exact ⟨i, hi, ev_bin (ev_lst (ev_cons rfl (ev_cons rfl (ev_cons rfl (ev_cons rfl (ev_cons (ev_bin g0 rfl (dMod_int (by decide))) (ev_cons (ev_bin g0 rfl (dMod_int (by decide))) rfl)))))) (line_big (show 6 ≤ 100000 by decide))) (ev_bin g1 rfl (dMod_int (by decide))) ev⟩
theorem tw_in {env : En} {w : Str} (hw : w ∈ wordsH) (hv : mVar 3 env = some (.str w)) : mTst (mBin (dIn false) (mVar 3) (mTup (mCons (mC (.str "and")) (mCons (mC (.str "or")) mNil)))) env = some (decide (w ∈ ([("and" : Str), "or"] : List Str))) := by
  refine ev_tst (ev_bin hv (b := .tuple ([("and" : Str), "or"].map .str)) (tup2 rfl rfl) ?_)
  rw [dIn_t (word_sh w hw) (fun x hx => ?_), Bool.false_xor]
  (simp only [List.mem_cons, List.not_mem_nil, or_false] at hx)
  rcases hx with rfl | rfl <;> decide +kernel
theorem tw_eq {env : En} {w z : Str} (hw : w ∈ wordsH) (hz : z ∈ wordsH) (hv : mVar 3 env = some (.str w)) : mTst (mBin dEq (mVar 3) (mC (.str z))) env = some (decide (w = z)) := ev_tst (ev_bin hv rfl (dEq_s (word_sh w hw) (word_sh z hz)))
theorem wide_ret {env : En} {i : Nat} {ws : List Str} {M : Int} (h4 : mVar 4 env = some (.int (i : Int))) (h11 : mVar 11 env = some (.str (glue ws))) (h5 : mVar 5 env = some (.int M)) (hi : i ≤ 22) (ne : ws ≠ []) (few : (glue ws).length ≤ 50000) :
    mRet (mTup (mCons (mBin dAdd (mBin dAdd (mBin dMulT (mC (.str "( ")) (mVar 4)) (mVar 11)) (mBin dMulT (mC (.str " )")) (mVar 4))) (mCons (mVar 5) mNil))) env = some (.rt (.tuple [.str (glue (brk i ws)), .int M])) := by
  refine ev_ret (tup2 (ev_bin (a := .str (repL i ++ glue ws)) (b := .str (repR i)) (ev_bin (ev_bin rfl h4 (mul_L hi)) h11 (dAdd_s (by rw [repL_len]; omega))) (ev_bin rfl h4 (mul_R hi)) ?_) h5)
  rw [dAdd_s (by rw [s_len, repL_len, repR_len]; omega), glue_brk ne, s_assoc]
section
variable {self : List PyData → Option PyData} {ps : List Int} {deep : Int}
theorem wide_two {w : Str} (hw : w = "and" ∨ w = "or") {d da db : PyData} (e1 : dIx d (.int 0) = some (.str w)) (e2 : dIx d (.int 1) = some da) (e3 : dIx d (.int 2) = some db) (hp : 2 ≤ ps.length) :
    ∃ i : Nat, i ≤ 22 ∧ ∀ (L R : Str) (x y : Int) (ws : List Str), self [da, .list (((ps.drop 2).take (ps.length / 2 - 2)).map .int), .int (deep + i + 1)] = some (.tuple [.str L, .int x]) → self [db, .list ((ps.drop (ps.length / 2)).map .int), .int (deep + i + 1)] = some (.tuple [.str R, .int y]) → L.length + R.length ≤ 40000 → ws ≠ [] →
      glue ws = ("( " : Str) ++ (L ++ ((" ) " : Str) ++ (w ++ ((" ( " : Str) ++ (R ++ (" )" : Str)))))) → runB 13 (mb_law_wide self) [d, .list (ps.map .int), .int deep] = some (.tuple [.str (glue (brk i ws)), .int (if y > x then y else x)]) := by
  have wh : w ∈ wordsH := by
    rcases hw with rfl | rfl <;> decide +kernel
  have wl : w.length ≤ 3 := by
    rcases hw with rfl | rfl <;> decide +kernel
  obtain ⟨i, hi, me⟩ := many_eq (env := [some d, some (.list (ps.map .int)), some (.int deep), some (.str w), none, none, none, none, none, none, none, none, none]) rfl hp
  refine ⟨i, hi, fun L R x y ws h1 h2 few ne eg => ?_⟩
  have l0 : ("( " : Str).length = 2 := by decide +kernel
  have l1 : (" ) " : Str).length = 3 := by decide +kernel
  have l2 : (" ( " : Str).length = 3 := by decide +kernel
  have l3 : (" )" : Str).length = 2 := by decide +kernel
  have glen : (glue ws).length ≤ 50000 := by
    rw [eg]
    simp only [s_len, l0, l1, l2, l3]
    omega
  unfold mb_law_wide
  refine ev_run (d := .tuple [.str (glue (brk i ws)), .int (if y > x then y else x)]) (ev_set (d := .str w) (ev_bin rfl rfl e1) (ev_set me (ev_set (d := .int (deep + i)) (ev_bin rfl rfl (dAdd_int _ _)) ?_))) rfl
  have t1 := tw_in (env := [some d, some (.list (ps.map .int)), some (.int deep), some (.str w), some (.int (i : Int)), some (.int (deep + i)), none, none, none, none, none, none, none]) wh rfl
  rw [decide_eq_true (by rcases hw with rfl | rfl <;> simp)] at t1
  have len : ∀ env : En, mVar 1 env = some (.list (ps.map .int)) → mBin dDiv (mCB bLen (mCons (mVar 1) mNil)) (mC (.int 2)) env = some (.int ((ps.length / 2 : Nat) : Int)) := fun env hv => by
    refine ev_bin (a := .int ((ps.length : Nat) : Int)) (ev_cb (ev_cons hv rfl) ?_) rfl ?_
    · show some (PyData.int ((ps.map PyData.int).length : Nat)) = _
      rw [List.length_map]
    · rw [dDiv_int (cdivS (by decide) (by decide))]
      rfl
  refine ev_ifT t1 (env' := [some d, some (.list (ps.map .int)), some (.int deep), some (.str w), some (.int (i : Int)), some (.int (if y > x then y else x)), some (.int ((ps.length / 2 : Nat) : Int)), some (.str L), some (.int x), some (.str R), some (.int y), some (.str (glue ws)), none]) ?_ (wide_ret rfl rfl rfl hi ne glen)
  refine ev_set (len _ rfl) ?_
  refine ev_bnd (d := .tuple [.str L, .int x]) (ev_cb (ev_cons (ev_bin rfl rfl e2) (ev_cons (ev_sl rfl (ev_part rfl) (ev_part rfl) (slice_ints (a := 2) (b := ps.length / 2) rfl rfl)) (ev_cons (ev_bin rfl rfl (dAdd_int _ _)) rfl))) h1) rfl ?_
  refine ev_bnd (d := .tuple [.str R, .int y]) (ev_cb (ev_cons (ev_bin rfl rfl e3) (ev_cons (ev_sl rfl (ev_part rfl) rfl (slice_ints_from (a := ps.length / 2) rfl)) (ev_cons (ev_bin rfl rfl (dAdd_int _ _)) rfl))) h2) rfl ?_
  refine ev_par1 (d := .str (glue ws)) (f := .int (if y > x then y else x)) (ev_cons ?_ (ev_cons (ev_cb (ev_cons rfl (ev_cons rfl rfl)) rfl) rfl))
  rw [eg]
  have fin : ∀ {x y : Str}, x.length + y.length ≤ 100000 → dAdd (.str x) (.str y) = some (.str (x ++ y)) := fun h => dAdd_s h
  refine ev_bin (a := .str (("( " : Str) ++ L ++ (" ) " : Str) ++ w ++ (" ( " : Str) ++ R)) (ev_bin (ev_bin (ev_bin (ev_bin (ev_bin rfl rfl (dAdd_s ?_)) rfl (dAdd_s ?_)) rfl (dAdd_s ?_)) rfl (dAdd_s ?_)) rfl (dAdd_s ?_)) rfl ?_
  · rw [l0]; omega
  · rw [s_len, l0, l1]; omega
  · rw [s_len, s_len, l0, l1]; omega
  · rw [s_len, s_len, s_len, l0, l1, l2]; omega
  · rw [s_len, s_len, s_len, s_len, l0, l1, l2]; omega
  · rw [dAdd_s (by rw [s_len, s_len, s_len, s_len, s_len, l0, l1, l2, l3]; omega)]
    simp only [s_assoc]
theorem wide_not {d da : PyData} (e1 : dIx d (.int 0) = some (.str "not")) (e2 : dIx d (.int 1) = some da) (hp : 2 ≤ ps.length) :
    ∃ i : Nat, i ≤ 22 ∧ ∀ (L : Str) (x : Int) (ws : List Str), self [da, .list ((ps.drop 2).map .int), .int (deep + i + 1)] = some (.tuple [.str L, .int x]) → L.length ≤ 40000 → ws ≠ [] →
      glue ws = ("not ( " : Str) ++ (L ++ (" )" : Str)) → runB 13 (mb_law_wide self) [d, .list (ps.map .int), .int deep] = some (.tuple [.str (glue (brk i ws)), .int x]) := by
  obtain ⟨i, hi, me⟩ := many_eq (env := [some d, some (.list (ps.map .int)), some (.int deep), some (.str "not"), none, none, none, none, none, none, none, none, none]) rfl hp
  refine ⟨i, hi, fun L x ws h1 few ne eg => ?_⟩
  have l0 : ("not ( " : Str).length = 6 := by decide +kernel
  have l3 : (" )" : Str).length = 2 := by decide +kernel
  have glen : (glue ws).length ≤ 50000 := by
    rw [eg]
    simp only [s_len, l0, l3]
    omega
  unfold mb_law_wide
  refine ev_run (d := .tuple [.str (glue (brk i ws)), .int x]) (ev_set (d := .str "not") (ev_bin rfl rfl e1) (ev_set me (ev_set (d := .int (deep + i)) (ev_bin rfl rfl (dAdd_int _ _)) ?_))) rfl
  have t1 := tw_in (env := [some d, some (.list (ps.map .int)), some (.int deep), some (.str "not"), some (.int (i : Int)), some (.int (deep + i)), none, none, none, none, none, none, none]) (by decide +kernel) rfl
  have t2 := tw_eq (z := "not") (env := [some d, some (.list (ps.map .int)), some (.int deep), some (.str "not"), some (.int (i : Int)), some (.int (deep + i)), none, none, none, none, none, none, none]) (by decide +kernel) (by decide +kernel) rfl
  rw [decide_eq_false (by decide +kernel)] at t1
  rw [decide_eq_true rfl] at t2
  refine ev_ifF t1 (env' := [some d, some (.list (ps.map .int)), some (.int deep), some (.str "not"), some (.int (i : Int)), some (.int x), none, none, none, none, none, some (.str (glue ws)), some (.str L)]) (ev_if1T t2 ?_) (wide_ret rfl rfl rfl hi ne glen)
  refine ev_bnd (d := .tuple [.str L, .int x]) (ev_cb (ev_cons (ev_bin rfl rfl e2) (ev_cons (ev_sl rfl (ev_part rfl) rfl (slice_ints_from (a := 2) rfl)) (ev_cons (ev_bin rfl rfl (dAdd_int _ _)) rfl))) h1) rfl ?_
  refine ev_set1 (d := .str (glue ws)) (ev_bin (a := .str (("not ( " : Str) ++ L)) (ev_bin rfl rfl (dAdd_s (by rw [l0]; omega))) rfl ?_) rfl
  rw [dAdd_s (by rw [s_len, l0, l3]; omega), eg, s_assoc]
theorem wide_has {t x y : Str} {a : CT} (k0 : NmOk t) (k1 : NmOk x) (k2 : NmOk y) (hp : 2 ≤ ps.length) :
    ∃ i : Nat, i ≤ 22 ∧ ∀ (L : Str) (z : Int) (ws : List Str), self [a.d, .list ((ps.drop 2).map .int), .int (deep + i)] = some (.tuple [.str L, .int z]) → L.length ≤ 40000 → ws ≠ [] →
      glue ws = ("has" : Str) ++ (sp ++ (t ++ (sp ++ (x ++ (sp ++ (y ++ ((" ( " : Str) ++ (L ++ (" )" : Str))))))))) → runB 13 (mb_law_wide self) [(CT.has t x y a).d, .list (ps.map .int), .int deep] = some (.tuple [.str (glue (brk i ws)), .int z]) := by
  obtain ⟨i, hi, me⟩ := many_eq (env := [some (CT.has t x y a).d, some (.list (ps.map .int)), some (.int deep), some (.str "has"), none, none, none, none, none, none, none, none, none]) rfl hp
  refine ⟨i, hi, fun L z ws h1 few ne eg => ?_⟩
  have m1 := k0.len
  have m2 := k1.len
  have m3 := k2.len
  have l2 : sp.length = 1 := by decide +kernel
  have l3 : ("has" : Str).length = 3 := by decide +kernel
  have l4 : (" ( " : Str).length = 3 := by decide +kernel
  have l5 : (" )" : Str).length = 2 := by decide +kernel
  have glen : (glue ws).length ≤ 50000 := by
    rw [eg]
    simp only [s_len, l2, l3, l4, l5]
    omega
  unfold mb_law_wide
  refine ev_run (d := .tuple [.str (glue (brk i ws)), .int z]) (ev_set (d := .str "has") rfl (ev_set me (ev_set (d := .int (deep + i)) (ev_bin rfl rfl (dAdd_int _ _)) ?_))) rfl
  let env : En := [some (CT.has t x y a).d, some (.list (ps.map .int)), some (.int deep), some (.str "has"), some (.int (i : Int)), some (.int (deep + i)), none, none, none, none, none, none, none]
  have t1 := tw_in (env := env) (w := "has") (by decide +kernel) rfl
  have t2 := tw_eq (w := "has") (z := "not") (env := env) (by decide +kernel) (by decide +kernel) rfl
  have t3 := tw_eq (w := "has") (z := "has") (env := env) (by decide +kernel) (by decide +kernel) rfl
  rw [decide_eq_false (by decide +kernel)] at t1 t2
  rw [decide_eq_true rfl] at t3
  refine ev_ifF t1 (env' := [some (CT.has t x y a).d, some (.list (ps.map .int)), some (.int deep), some (.str "has"), some (.int (i : Int)), some (.int z), none, none, none, none, none, some (.str (glue ws)), some (.str L)]) (ev_if1F t2 (ev_if1T t3 ?_)) (wide_ret rfl rfl rfl hi ne glen)
  refine ev_bnd (d := .tuple [.str L, .int z]) (ev_cb (ev_cons (ev_bin rfl rfl rfl) (ev_cons (ev_sl rfl (ev_part rfl) rfl (slice_ints_from (a := 2) rfl)) (ev_cons rfl rfl))) h1) rfl ?_
  have jn : ∀ e : En, mVar 0 e = some (CT.has t x y a).d → mJoin (mC (.str " ")) (mSl (mVar 0) mNoPart (mPart (mC (.int 4)))) e = some (.str (Txt.join " " [("has" : Str), t, x, y])) := fun e hv => by
    have e2 : mSl (mVar 0) mNoPart (mPart (mC (.int 4))) e = some (.tuple ([("has" : Str), t, x, y].map .str)) := ev_sl hv rfl (ev_part rfl) rfl
    unfold mJoin
    rw [e2]
    show joinD " " ([("has" : Str), t, x, y].map .str) = _
    unfold joinD
    rw [strsOf_map, Option.bind_some]
    refine if_pos ?_
    have l2 : (" " : Str).length = 1 := by decide +kernel
    simp only [List.map_cons, List.map_nil, List.sum_cons, List.sum_nil, List.length_cons, List.length_nil]
    omega
  have je : Txt.join " " [("has" : Str), t, x, y] = ("has" : Str) ++ (sp ++ (t ++ (sp ++ (x ++ (sp ++ y))))) := by
    rw [TL.join_eq]
    show ("has" : Str) ++ " " ++ (t ++ " " ++ (x ++ " " ++ y)) = _
    simp only [s_assoc]
  rw [je] at jn
  refine ev_set1 (d := .str (glue ws)) (ev_bin (a := .str (("has" : Str) ++ (sp ++ (t ++ (sp ++ (x ++ (sp ++ y))))) ++ (" ( " : Str) ++ L)) (ev_bin (ev_bin (jn _ rfl) rfl (dAdd_s (by simp only [s_len, l2, l3, l4]; omega))) rfl (dAdd_s (by simp only [s_len, l2, l3, l4]; omega))) rfl ?_) rfl
  rw [dAdd_s (by simp only [s_len, l2, l3, l4, l5]; omega), eg]
  simp only [s_assoc]
def atmH : List Str := ["yes", "is", "below", "same", "mine", "empty", "loud"]
theorem atmH_ne : ∀ w ∈ atmH, w ∉ ([("and" : Str), "or"] : List Str) ∧ w ≠ "not" ∧ w ≠ "has" := by decide +kernel
theorem hd_atm : ∀ c : CT, c.isAtm → c.hd ∈ atmH := fun c at_ => by
  cases c with
  | neg a => exact at_.elim
  | con a b => exact at_.elim
  | dis a b => exact at_.elim
  | has t x y a => exact at_.elim
  | _ => simp [CT.hd, atmH]
theorem wide_atm {hh : Bool} {c : CT} (at_ : c.isAtm) (ok : c.Ok hh) (hp : 2 ≤ ps.length) : ∃ i : Nat, i ≤ 22 ∧ runB 13 (mb_law_wide self) [c.d, .list (ps.map .int), .int deep] = some (.tuple [.str (glue (brk i c.ws)), .int (deep + i)]) := by
  obtain ⟨i, hi, me⟩ := many_eq (env := [some c.d, some (.list (ps.map .int)), some (.int deep), some (.str c.hd), none, none, none, none, none, none, none, none, none]) rfl hp
  refine ⟨i, hi, ?_⟩
  have al := atm_len c at_ ok
  have dp : c.dep ≤ 10 := by
    cases c with
    | neg a => exact at_.elim
    | con a b => exact at_.elim
    | dis a b => exact at_.elim
    | has t x y a => exact at_.elim
    | _ => exact (by decide : 1 ≤ 10)
  have nn := atmH_ne _ (hd_atm c at_)
  unfold mb_law_wide
  refine ev_run (d := .tuple [.str (glue (brk i c.ws)), .int (deep + i)]) (ev_set (d := .str c.hd) (ev_bin rfl rfl (hd_at c)) (ev_set me (ev_set (d := .int (deep + i)) (ev_bin rfl rfl (dAdd_int _ _)) ?_))) rfl
  let env : En := [some c.d, some (.list (ps.map .int)), some (.int deep), some (.str c.hd), some (.int (i : Int)), some (.int (deep + i)), none, none, none, none, none, none, none]
  have t1 := tw_in (env := env) c.hd_in rfl
  have t2 := tw_eq (z := "not") (env := env) c.hd_in (by decide +kernel) rfl
  have t3 := tw_eq (z := "has") (env := env) c.hd_in (by decide +kernel) rfl
  rw [decide_eq_false nn.1] at t1
  rw [decide_eq_false nn.2.1] at t2
  rw [decide_eq_false nn.2.2] at t3
  exact ev_ifF t1 (env' := [some c.d, some (.list (ps.map .int)), some (.int deep), some (.str c.hd), some (.int (i : Int)), some (.int (deep + i)), none, none, none, none, none, some (.str c.txt), none]) (ev_if1F t2 (ev_if1F t3 (ev_set1 (ev_cb (ev_cons rfl rfl) (lwords_eq c 10 ok dp (Nat.le_refl _))) rfl))) (wide_ret (ws := c.ws) rfl rfl rfl hi c.ws_ne (by show c.txt.length ≤ 50000; omega))
end
theorem CT.parts_pos : ∀ c : CT, 1 ≤ c.parts
  | .yes | .eqn _ _ | .les _ _ | .same _ _ | .mine _ | .emp _ | .lou _ => Nat.le_refl _
  | .neg _ | .con _ _ | .dis _ _ | .has _ _ _ _ => Nat.le_add_left _ _
theorem pow_half {a b n : Nat} (hb : 1 ≤ b) (h : 2 ^ (a + b + 1 + 1) ≤ n) : 2 ^ (a + 1) ≤ n / 2 - 2 ∧ 2 ^ (a + 1) ≤ n - n / 2 := by
  have h1 : 2 ^ (a + 1 + 2) ≤ 2 ^ (a + b + 1 + 1) := Nat.pow_le_pow_right (by decide) (by omega)
  have h2 : 2 ^ (a + 1 + 2) = 2 ^ (a + 1) * 2 * 2 := by rw [Nat.pow_succ, Nat.pow_succ]
  have h3 : 2 ^ 1 ≤ 2 ^ (a + 1) := Nat.pow_le_pow_right (by decide) (by omega)
  omega
theorem pow_one {a n : Nat} (h : 2 ^ (a + 1 + 1) ≤ n) : 2 ^ (a + 1) ≤ n - 2 := by
  have h2 : 2 ^ (a + 1 + 1) = 2 ^ (a + 1) * 2 := Nat.pow_succ ..
  have h3 : 2 ^ 1 ≤ 2 ^ (a + 1) := Nat.pow_le_pow_right (by decide) (by omega)
  omega
theorem pow_two {a n : Nat} (h : 2 ^ (a + 1) ≤ n) : 2 ≤ n := by
  have h3 : 2 ^ 1 ≤ 2 ^ (a + 1) := Nat.pow_le_pow_right (by decide) (by omega)
  omega
def WideOk (c : CT) (n : Nat) (ps : List Int) (deep : Int) : Prop := ∃ (t : BT) (i : Nat), t.c = c ∧ t.Ats ∧ i ≤ 22 ∧ (glue t.ws).length + 88 ≤ 200 * c.parts ∧ fm_law_wide n [c.d, .list (ps.map .int), .int deep] = some (.tuple [.str (glue (brk i t.ws)), .int (deep + ((i + t.most : Nat) : Int))])
theorem wide_glue2 {w : Str} (hw : w = "and" ∨ w = "or") {a b : List Str} (ha : a ≠ []) (hb : b ≠ []) : glue (("(" : Str) :: (a ++ [(")" : Str)]) ++ w :: ("(" : Str) :: (b ++ [(")" : Str)])) = ("( " : Str) ++ (glue a ++ ((" ) " : Str) ++ (w ++ ((" ( " : Str) ++ (glue b ++ (" )" : Str)))))) := by
  rw [glue_app (by simp) (by simp), glue_brk1 ha, glue_cons (by simp), glue_brk1 hb, show (" ) " : Str) = (" )" : Str) ++ sp by decide +kernel, show (" ( " : Str) = sp ++ ("( " : Str) by decide +kernel]
  simp only [s_assoc]
theorem max_of {i1 m1 i2 m2 : Nat} {deep : Int} {i : Nat} : (if (deep + i + 1 + ((i2 + m2 : Nat) : Int)) > (deep + i + 1 + ((i1 + m1 : Nat) : Int)) then (deep + i + 1 + ((i2 + m2 : Nat) : Int)) else (deep + i + 1 + ((i1 + m1 : Nat) : Int))) = deep + ((i + max (i1 + 1 + m1) (i2 + 1 + m2) : Nat) : Int) := by
  rcases Nat.le_total (i1 + 1 + m1) (i2 + 1 + m2) with z | z
  · rw [Nat.max_eq_right z]
    split <;> omega
  · rw [Nat.max_eq_left z]
    split <;> omega
theorem wide_eq : ∀ (c : CT) (n : Nat) (ps : List Int) (deep : Int), c.Ok true → c.dep ≤ n → c.parts ≤ 100 → 2 ^ (c.parts + 1) ≤ ps.length → WideOk c n ps deep
  | .con a b, 0, _, _, _, hd, _, _ => absurd hd (by show ¬ max a.dep b.dep + 1 ≤ 0; omega)
  | .dis a b, 0, _, _, _, hd, _, _ => absurd hd (by show ¬ max a.dep b.dep + 1 ≤ 0; omega)
  | .neg a, 0, _, _, _, hd, _, _ => absurd hd (by show ¬ a.dep + 1 ≤ 0; omega)
  | .has t x y a, 0, _, _, _, hd, _, _ => absurd hd (by show ¬ a.dep + 1 ≤ 0; omega)
  | .con a b, n + 1, ps, deep, ok, hd, hp, hl => by
    have hd : max a.dep b.dep + 1 ≤ n + 1 := hd
    have m1 := Nat.le_max_left a.dep b.dep
    have m2 := Nat.le_max_right a.dep b.dep
    have hp : a.parts + b.parts + 1 ≤ 100 := hp
    have hl : 2 ^ (a.parts + b.parts + 1 + 1) ≤ ps.length := hl
    have la := pow_half b.parts_pos hl
    have lb := pow_half (a := b.parts) (b := a.parts) a.parts_pos (by rw [Nat.add_comm b.parts a.parts]; exact hl)
    obtain ⟨i, hi, fin⟩ := wide_two (self := fm_law_wide n) (ps := ps) (deep := deep) (w := "and") (.inl rfl) (d := (CT.con a b).d) (da := a.d) (db := b.d) rfl rfl rfl (pow_two hl)
    obtain ⟨t1, i1, c1, s1, j1, g1, e1⟩ := wide_eq a n ((ps.drop 2).take (ps.length / 2 - 2)) (deep + i + 1) ok.1 (by omega) (by omega) (by rw [List.length_take, List.length_drop]; omega)
    obtain ⟨t2, i2, c2, s2, j2, g2, e2⟩ := wide_eq b n (ps.drop (ps.length / 2)) (deep + i + 1) ok.2 (by omega) (by omega) (by rw [List.length_drop]; exact lb.2)
    have n1 := brk_glen t1.ws_ne i1
    have n2 := brk_glen t2.ws_ne i2
    have gl := wide_glue2 (w := "and") (.inl rfl) (brk_ne t1.ws_ne i1) (brk_ne t2.ws_ne i2)
    have r := fin _ _ _ _ (BT.con i1 t1 i2 t2).ws e1 e2 (by omega) (BT.ws_ne _) gl
    refine ⟨.con i1 t1 i2 t2, i, by simp only [BT.c, c1, c2], ⟨s1, s2⟩, hi, ?_, ?_⟩
    · have ge : (glue (BT.con i1 t1 i2 t2).ws).length = _ := congrArg Str.length gl
      rw [ge]
      simp only [s_len, show ("( " : Str).length = 2 by decide +kernel, show (" ) " : Str).length = 3 by decide +kernel, show ("and" : Str).length = 3 by decide +kernel, show (" ( " : Str).length = 3 by decide +kernel, show (" )" : Str).length = 2 by decide +kernel]
      show _ ≤ 200 * (a.parts + b.parts + 1)
      omega
    · show runB 13 (mb_law_wide (fm_law_wide n)) _ = _
      rw [r, max_of]
      rfl
  | .dis a b, n + 1, ps, deep, ok, hd, hp, hl => by
    have hd : max a.dep b.dep + 1 ≤ n + 1 := hd
    have m1 := Nat.le_max_left a.dep b.dep
    have m2 := Nat.le_max_right a.dep b.dep
    have hp : a.parts + b.parts + 1 ≤ 100 := hp
    have hl : 2 ^ (a.parts + b.parts + 1 + 1) ≤ ps.length := hl
    have la := pow_half b.parts_pos hl
    have lb := pow_half (a := b.parts) (b := a.parts) a.parts_pos (by rw [Nat.add_comm b.parts a.parts]; exact hl)
    obtain ⟨i, hi, fin⟩ := wide_two (self := fm_law_wide n) (ps := ps) (deep := deep) (w := "or") (.inr rfl) (d := (CT.dis a b).d) (da := a.d) (db := b.d) rfl rfl rfl (pow_two hl)
    obtain ⟨t1, i1, c1, s1, j1, g1, e1⟩ := wide_eq a n ((ps.drop 2).take (ps.length / 2 - 2)) (deep + i + 1) ok.1 (by omega) (by omega) (by rw [List.length_take, List.length_drop]; omega)
    obtain ⟨t2, i2, c2, s2, j2, g2, e2⟩ := wide_eq b n (ps.drop (ps.length / 2)) (deep + i + 1) ok.2 (by omega) (by omega) (by rw [List.length_drop]; exact lb.2)
    have n1 := brk_glen t1.ws_ne i1
    have n2 := brk_glen t2.ws_ne i2
    have gl := wide_glue2 (w := "or") (.inr rfl) (brk_ne t1.ws_ne i1) (brk_ne t2.ws_ne i2)
    have r := fin _ _ _ _ (BT.dis i1 t1 i2 t2).ws e1 e2 (by omega) (BT.ws_ne _) gl
    refine ⟨.dis i1 t1 i2 t2, i, by simp only [BT.c, c1, c2], ⟨s1, s2⟩, hi, ?_, ?_⟩
    · have ge : (glue (BT.dis i1 t1 i2 t2).ws).length = _ := congrArg Str.length gl
      rw [ge]
      simp only [s_len, show ("( " : Str).length = 2 by decide +kernel, show (" ) " : Str).length = 3 by decide +kernel, show ("or" : Str).length = 2 by decide +kernel, show (" ( " : Str).length = 3 by decide +kernel, show (" )" : Str).length = 2 by decide +kernel]
      show _ ≤ 200 * (a.parts + b.parts + 1)
      omega
    · show runB 13 (mb_law_wide (fm_law_wide n)) _ = _
      rw [r, max_of]
      rfl
  | .neg a, n + 1, ps, deep, ok, hd, hp, hl => by
    have hd : a.dep + 1 ≤ n + 1 := hd
    have hp : a.parts + 1 ≤ 100 := hp
    have hl : 2 ^ (a.parts + 1 + 1) ≤ ps.length := hl
    obtain ⟨i, hi, fin⟩ := wide_not (self := fm_law_wide n) (ps := ps) (deep := deep) (d := (CT.neg a).d) (da := a.d) rfl rfl (pow_two hl)
    obtain ⟨t1, i1, c1, s1, j1, g1, e1⟩ := wide_eq a n (ps.drop 2) (deep + i + 1) ok (by omega) (by omega) (by rw [List.length_drop]; exact pow_one hl)
    have n1 := brk_glen t1.ws_ne i1
    have gl : glue (BT.neg i1 t1).ws = ("not ( " : Str) ++ (glue (brk i1 t1.ws) ++ (" )" : Str)) := by
      show glue (("not" : Str) :: ("(" : Str) :: (brk i1 t1.ws ++ [(")" : Str)])) = _
      rw [glue_cons (by simp), glue_brk1 (brk_ne t1.ws_ne i1), show ("not ( " : Str) = ("not" : Str) ++ (sp ++ ("( " : Str)) by decide +kernel]
      simp only [s_assoc]
    have r := fin _ _ (BT.neg i1 t1).ws e1 (by omega) (BT.ws_ne _) gl
    refine ⟨.neg i1 t1, i, by simp only [BT.c, c1], s1, hi, ?_, ?_⟩
    · rw [gl]
      simp only [s_len, show ("not ( " : Str).length = 6 by decide +kernel, show (" )" : Str).length = 2 by decide +kernel]
      show _ ≤ 200 * (a.parts + 1)
      omega
    · show runB 13 (mb_law_wide (fm_law_wide n)) _ = _
      rw [r, show deep + (i : Int) + 1 + ((i1 + t1.most : Nat) : Int) = deep + ((i + (i1 + 1 + t1.most) : Nat) : Int) by omega]
      rfl
  | .has t x y a, n + 1, ps, deep, ok, hd, hp, hl => by
    obtain ⟨_, k0, k1, k2, k3, _⟩ := ok
    have hd : a.dep + 1 ≤ n + 1 := hd
    have hp : a.parts + 1 ≤ 100 := hp
    have hl : 2 ^ (a.parts + 1 + 1) ≤ ps.length := hl
    obtain ⟨i, hi, fin⟩ := wide_has (self := fm_law_wide n) (ps := ps) (deep := deep) (a := a) k0 k1 k2 (pow_two hl)
    obtain ⟨t1, i1, c1, s1, j1, g1, e1⟩ := wide_eq a n (ps.drop 2) (deep + i) k3 (by omega) (by omega) (by rw [List.length_drop]; exact pow_one hl)
    have n1 := brk_glen t1.ws_ne i1
    have q0 := k0.len
    have q1 := k1.len
    have q2 := k2.len
    have gl : glue (BT.has t x y i1 t1).ws = ("has" : Str) ++ (sp ++ (t ++ (sp ++ (x ++ (sp ++ (y ++ ((" ( " : Str) ++ (glue (brk i1 t1.ws) ++ (" )" : Str))))))))) := by
      show glue (("has" : Str) :: t :: x :: y :: ("(" : Str) :: (brk i1 t1.ws ++ [(")" : Str)])) = _
      rw [glue_cons (by simp), glue_cons (by simp), glue_cons (by simp), glue_cons (by simp), glue_brk1 (brk_ne t1.ws_ne i1), show (" ( " : Str) = sp ++ ("( " : Str) by decide +kernel]
      simp only [s_assoc]
    have r := fin _ _ (BT.has t x y i1 t1).ws e1 (by omega) (BT.ws_ne _) gl
    refine ⟨.has t x y i1 t1, i, by simp only [BT.c, c1], s1, hi, ?_, ?_⟩
    · rw [gl]
      simp only [s_len, show ("has" : Str).length = 3 by decide +kernel, show sp.length = 1 by decide +kernel, show (" ( " : Str).length = 3 by decide +kernel, show (" )" : Str).length = 2 by decide +kernel]
      show _ ≤ 200 * (a.parts + 1)
      omega
    · show runB 13 (mb_law_wide (fm_law_wide n)) _ = _
      rw [r, show deep + (i : Int) + ((i1 + t1.most : Nat) : Int) = deep + ((i + (i1 + t1.most) : Nat) : Int) by omega]
      rfl
  | .yes, n, ps, deep, ok, hd, hp, hl => wide_at trivial ok hd hl
  | .eqn _ _, n, ps, deep, ok, hd, hp, hl => wide_at trivial ok hd hl
  | .les _ _, n, ps, deep, ok, hd, hp, hl => wide_at trivial ok hd hl
  | .same _ _, n, ps, deep, ok, hd, hp, hl => wide_at trivial ok hd hl
  | .mine _, n, ps, deep, ok, hd, hp, hl => wide_at trivial ok hd hl
  | .emp _, n, ps, deep, ok, hd, hp, hl => wide_at trivial ok hd hl
  | .lou _, n, ps, deep, ok, hd, hp, hl => wide_at trivial ok hd hl
where
  wide_at {c : CT} {n : Nat} {ps : List Int} {deep : Int} (at_ : c.isAtm) (ok : c.Ok true) (hd : c.dep ≤ n) (hl : 2 ^ (c.parts + 1) ≤ ps.length) : WideOk c n ps deep := by
    have dp : 1 ≤ c.dep := by cases c <;> simp [CT.dep]
    obtain ⟨n, rfl⟩ := Nat.exists_eq_succ_of_ne_zero (show n ≠ 0 by omega)
    obtain ⟨i, hi, e⟩ := wide_atm (self := fm_law_wide n) (ps := ps) (deep := deep) at_ ok (pow_two hl)
    have al := atm_len c at_ ok
    have pp := c.parts_pos
    refine ⟨.atm c, i, rfl, at_, hi, by show c.txt.length + 88 ≤ _; omega, ?_⟩
    show runB 13 (mb_law_wide (fm_law_wide n)) _ = _
    rw [e]
    rfl
section
variable {W : List Str} {p q m : Nat} {d : PyData}
theorem condP_ok (r : fs_take_or (fs_take_alone 30) [RS W p, BS 0 0 false] [] = some (.inl (d, [RS W q, BS m 0 false]))) : fs_take_condition [RS W p] [] = some (.inl (d, [RS W q])) := by
  have mk : mMake 1 fs_Bounds___init (mConsZ (zOf (mC c_MOST_CONDITIONS)) mNilZ) [some (RS W p)] = some (.val (BS 0 0 false) [some (RS W p)]) := rfl
  have g : getS [(0, 0)] [some (RS W p)] = some [RS W p] := rfl
  unfold fs_take_condition mb_take_condition
  refine ev_runS (env := [some (RS W q)]) (y_retE ?_) rfl
  unfold mCG
  show (getS [(0, 0)] [some (RS W p)]).bind _ = _
  rw [g, Option.bind_some]
  refine (zb mk).trans ?_
  show ((fs_take_or (fs_take_alone 30) [RS W p, BS 0 0 false] []).bind _) = _
  rw [r]
  rfl
theorem condP_no {z : Str} (r : fs_take_or (fs_take_alone 30) [RS W p, BS 0 0 false] [] = some (.inr z)) : fs_take_condition [RS W p] [] = some (.inr z) := by
  have mk : mMake 1 fs_Bounds___init (mConsZ (zOf (mC c_MOST_CONDITIONS)) mNilZ) [some (RS W p)] = some (.val (BS 0 0 false) [some (RS W p)]) := rfl
  have g : getS [(0, 0)] [some (RS W p)] = some [RS W p] := rfl
  unfold fs_take_condition mb_take_condition
  refine ev_runSx (env := [none]) (y_retX ?_)
  unfold mCG
  show (getS [(0, 0)] [some (RS W p)]).bind _ = _
  rw [g, Option.bind_some]
  refine (zb mk).trans ?_
  show ((fs_take_or (fs_take_alone 30) [RS W p, BS 0 0 false] []).bind _) = _
  rw [r]
  rfl
theorem c0_no {fn : StF} {s : PyData} {r : En} {z : Str} (hf : fn [s] [] = some (.inr z)) : mCS [(0, 0)] 0 fn mNilZ (some s :: r) = some (.xc z (none :: r)) := by
  have g : getS [(0, 0)] (some s :: r) = some [s] := rfl
  unfold mCS
  rw [g, Option.bind_some, zb (d := []) (e1 := some s :: r) rfl]
  show (if ([] : List PyData).length = 0 then _ else _) = _
  rw [if_pos (show ([] : List PyData).length = 0 from rfl), g, Option.bind_some]
  show ((fn [s] []).bind _) = _
  rw [hf]
  rfl
theorem c0a_eq {fn : StF} {s s' a d : PyData} {b : Option PyData} (hf : fn [s] [a] = some (.inl (d, [s']))) : mCS [(0, 0)] 1 fn (mConsZ (zOf (mVar 2)) mNilZ) [some s, b, some a] = some (.val d [some s', b, some a]) := by
  have g : getS [(0, 0)] [some s, b, some a] = some [s] := rfl
  unfold mCS
  rw [g, Option.bind_some, zb (d := [a]) (e1 := [some s, b, some a]) rfl]
  show (if ([a] : List PyData).length = 1 then _ else _) = _
  rw [if_pos (show ([a] : List PyData).length = 1 from rfl), g, Option.bind_some]
  show ((fn [s] [a]).bind _) = _
  rw [hf]
  rfl
theorem c0a_no {fn : StF} {s a : PyData} {b : Option PyData} {z : Str} (hf : fn [s] [a] = some (.inr z)) : mCS [(0, 0)] 1 fn (mConsZ (zOf (mVar 2)) mNilZ) [some s, b, some a] = some (.xc z [none, b, some a]) := by
  have g : getS [(0, 0)] [some s, b, some a] = some [s] := rfl
  unfold mCS
  rw [g, Option.bind_some, zb (d := [a]) (e1 := [some s, b, some a]) rfl]
  show (if ([a] : List PyData).length = 1 then _ else _) = _
  rw [if_pos (show ([a] : List PyData).length = 1 from rfl), g, Option.bind_some]
  show ((fn [s] [a]).bind _) = _
  rw [hf]
  rfl
end
section
variable {W : List Str} (h : W.length ≤ 100000) (sh : ∀ w ∈ W, SeqAt.shaped (.str w) = true) {p q m br : Nat} {wh : Bool} {d a : PyData}
include h sh
omit sh in
theorem first_eq {self : StF} {t : Str} (w0 : W[p]? = some "rows") (w1 : W[p + 1]? = some t) (ok : NmOk t) (hm : m + 1 ≤ 8) : fs_take_first self [RS W p, BS m br wh] [] = some (.inl (.tuple [.str "rows", .str t], [RS W (p + 2), BS (m + 1) br wh])) := by
  unfold fs_take_first mb_take_first
  refine ev_runS (env := [some (RS W (p + 2)), some (BS (m + 1) br wh), some (.str "rows"), none, none, none]) ?_ rfl
  refine y_seq (e1 := [some (RS W p), some (BS (m + 1) br wh), none, none, none, none]) (y_expE (mb_eq (r := [none, none, none, none]) rfl (count_eq hm))) ?_
  refine y_seq (e1 := [some (RS W (p + 1)), some (BS (m + 1) br wh), some (.str "rows"), none, none, none]) (y_asgE (me_eq rfl rfl rfl rfl (take_eq W p h w0))) ?_
  refine y_seqR (y_ifE (b := true) (e1 := [some (RS W (p + 1)), some (BS (m + 1) br wh), some (.str "rows"), none, none, none]) (z_ofE ?_) (y_retE (z_tupE (ds := [.str "rows", .str t]) (z_consE (e1 := [some (RS W (p + 1)), some (BS (m + 1) br wh), some (.str "rows"), none, none, none]) rfl (z_consE (me_eq rfl rfl rfl rfl (take_name_eq W (p + 1) h w1 ok)) rfl)) (show 2 ≤ 100 by decide))))
  refine ev_tst (ev_bin rfl (b := .tuple ([("rows" : Str), "view"].map .str)) (tup2 rfl rfl) ?_)
  rw [dIn_t (by decide +kernel) (fun x hx => ?_)]
  · exact congrArg (fun z => some (PyData.bool z)) (by decide +kernel)
  · (simp only [List.mem_cons, List.not_mem_nil, or_false] at hx)
    rcases hx with rfl | rfl <;> decide +kernel
omit h sh in
theorem st_eq {w z : Str} {env : En} (hw : SeqAt.shaped (.str w) = true) (hz : SeqAt.shaped (.str z) = true) (hv : mVar 2 env = some (.str w)) : mTst (mBin dEq (mVar 2) (mC (.str z))) env = some (decide (w = z)) := ev_tst (ev_bin hv rfl (dEq_s hw hz))
theorem where_eq (w0 : W[p]? = some "where") (r : fs_take_condition [RS W (p + 1)] [] = some (.inl (d, [RS W q]))) : fs_take_step [RS W p] [a] = some (.inl (.tuple [.str "where", a, d], [RS W q])) := by
  unfold fs_take_step mb_take_step
  refine ev_runS (env := [some (RS W q), some a, some (.str "where")]) ?_ rfl
  refine y_seq (e1 := [some (RS W (p + 1)), some a, some (.str "where")]) (y_asgE (me_eq rfl rfl rfl rfl (take_eq W p h w0))) ?_
  refine y_seqR (y_ifE (b := true) (e1 := [some (RS W (p + 1)), some a, some (.str "where")]) (z_ofE ?_) (y_retE (z_tupE (ds := [.str "where", a, d]) (z_consE (e1 := [some (RS W (p + 1)), some a, some (.str "where")]) rfl (z_consE (e1 := [some (RS W (p + 1)), some a, some (.str "where")]) rfl (z_consE (c1_eq h sh r) rfl))) (show 3 ≤ 100 by decide))))
  exact (st_eq (by decide +kernel) (by decide +kernel) rfl).trans (congrArg some (by decide +kernel))
omit sh in
theorem where_no {z : Str} (w0 : W[p]? = some "where") (r : fs_take_condition [RS W (p + 1)] [] = some (.inr z)) : fs_take_step [RS W p] [a] = some (.inr z) := by
  unfold fs_take_step mb_take_step
  refine ev_runSx (env := [none, some a, some (.str "where")]) ?_
  refine y_seq (e1 := [some (RS W (p + 1)), some a, some (.str "where")]) (y_asgE (me_eq rfl rfl rfl rfl (take_eq W p h w0))) ?_
  refine y_seqX (y_ifE (b := true) (e1 := [some (RS W (p + 1)), some a, some (.str "where")]) (z_ofE ?_) (y_retX (z_tupX (z_consX2 (e1 := [some (RS W (p + 1)), some a, some (.str "where")]) rfl (z_consX2 (e1 := [some (RS W (p + 1)), some a, some (.str "where")]) rfl (z_consX1 (c0_no r)))))))
  exact (st_eq (by decide +kernel) (by decide +kernel) rfl).trans (congrArg some (by decide +kernel))
omit sh in
theorem seal_eq (w0 : W[p]? = some "seal") : fs_take_step [RS W p] [a] = some (.inl (.tuple [.str "seal", a], [RS W (p + 1)])) := by
  unfold fs_take_step mb_take_step
  have t : ∀ z : Str, SeqAt.shaped (.str z) = true → mTst (mBin dEq (mVar 2) (mC (.str z))) [some (RS W (p + 1)), some a, some (.str "seal")] = some (decide (("seal" : Str) = z)) := fun z hz => st_eq (by decide +kernel) hz rfl
  refine ev_runS (env := [some (RS W (p + 1)), some a, some (.str "seal")]) ?_ rfl
  refine y_seq (e1 := [some (RS W (p + 1)), some a, some (.str "seal")]) (y_asgE (me_eq rfl rfl rfl rfl (take_eq W p h w0))) ?_
  refine y_seq (e1 := [some (RS W (p + 1)), some a, some (.str "seal")]) (y_ifE (b := false) (e1 := [some (RS W (p + 1)), some a, some (.str "seal")]) (z_ofE ((t _ (by decide +kernel)).trans (congrArg some (by decide +kernel)))) rfl) ?_
  refine y_seq (e1 := [some (RS W (p + 1)), some a, some (.str "seal")]) (y_ifE (b := false) (e1 := [some (RS W (p + 1)), some a, some (.str "seal")]) (z_ofE ?_) rfl) ?_
  · refine ev_tst (ev_bin rfl (b := .tuple ([("keep" : Str), "named"].map .str)) (tup2 rfl rfl) ?_)
    rw [dIn_t (by decide +kernel) (fun x hx => ?_)]
    · exact congrArg (fun z => some (PyData.bool z)) (by decide +kernel)
    · (simp only [List.mem_cons, List.not_mem_nil, or_false] at hx)
      rcases hx with rfl | rfl <;> decide +kernel
  refine y_seq (e1 := [some (RS W (p + 1)), some a, some (.str "seal")]) (y_ifE (b := false) (e1 := [some (RS W (p + 1)), some a, some (.str "seal")]) (z_ofE ((t _ (by decide +kernel)).trans (congrArg some (by decide +kernel)))) rfl) ?_
  refine y_seq (e1 := [some (RS W (p + 1)), some a, some (.str "seal")]) (y_ifE (b := false) (e1 := [some (RS W (p + 1)), some a, some (.str "seal")]) (z_ofE (ev_tst (ev_bin rfl rfl (dNe_refl (by decide +kernel))))) rfl) ?_
  exact y_retE (z_ofE (tup2 rfl rfl))
theorem ask_ok {self : StF} {t : Str} (w0 : W[0]? = some ("rows" : Str)) (w1 : W[1]? = some t) (ok : NmOk t) (w2 : W[2]? = some ("|" : Str)) (w3 : W[3]? = some ("where" : Str)) (r : fs_take_condition [RS W 4] [] = some (.inl (d, [RS W q]))) (w4 : W[q]? = some ("|" : Str)) (w5 : W[q + 1]? = some ("seal" : Str)) (w6 : W[q + 2]? = none) : runS 3 [0, 1] (mb_take_ask self) [RS W 0, BS 0 0 false] [] = some (.inl (.tuple [.str "seal", .tuple [.str "where", .tuple [.str "rows", .str t], d]], [RS W (q + 2), BS 3 0 false])) := by
  have f := first_eq h (self := self) (p := 0) (m := 0) (br := 0) (wh := false) w0 w1 ok (by decide)
  have s1 := where_eq h sh (a := .tuple [.str "rows", .str t]) w3 r
  have s2 := seal_eq h (a := .tuple [.str "where", .tuple [.str "rows", .str t], d]) w5
  have b1 : lb1_take_ask self [some (RS W 3), some (BS 1 0 false), some (.tuple [.str "rows", .str t])] = some (.nx [some (RS W q), some (BS 2 0 false), some (.tuple [.str "where", .tuple [.str "rows", .str t], d])]) := by
    unfold lb1_take_ask
    exact y_seq (e1 := [some (RS W 3), some (BS 2 0 false), some (.tuple [.str "rows", .str t])]) (y_expE (mb_eq (r := [some (.tuple [.str "rows", .str t])]) rfl (count_eq (by decide)))) (y_asgE (c0a_eq s1))
  have b2 : lb1_take_ask self [some (RS W (q + 1)), some (BS 2 0 false), some (.tuple [.str "where", .tuple [.str "rows", .str t], d])] = some (.nx [some (RS W (q + 2)), some (BS 3 0 false), some (.tuple [.str "seal", .tuple [.str "where", .tuple [.str "rows", .str t], d]])]) := by
    unfold lb1_take_ask
    exact y_seq (e1 := [some (RS W (q + 1)), some (BS 3 0 false), some (.tuple [.str "where", .tuple [.str "rows", .str t], d])]) (y_expE (mb_eq (r := [some (.tuple [.str "where", .tuple [.str "rows", .str t], d])]) rfl (count_eq (by decide)))) (y_asgE (c0a_eq s2))
  unfold mb_take_ask
  refine ev_runS (env := [some (RS W (q + 2)), some (BS 3 0 false), some (.tuple [.str "seal", .tuple [.str "where", .tuple [.str "rows", .str t], d]])]) ?_ rfl
  refine y_seq (e1 := [some (RS W 2), some (BS 1 0 false), some (.tuple [.str "rows", .str t])]) (y_asgE (cs_eq (r := [none]) f)) ?_
  refine y_seq (e1 := [some (RS W (q + 2)), some (BS 3 0 false), some (.tuple [.str "seal", .tuple [.str "where", .tuple [.str "rows", .str t], d]])]) ?_ (y_retE (z_ofE rfl))
  refine (while_yes (k := 11) (tk_yes (x := none) h sh w2 rfl) b1).trans ?_
  refine (while_yes (k := 10) (tk_yes (x := none) h sh w4 rfl) b2).trans ?_
  exact while_no (k := 9) (tk_no h sh (by decide +kernel) (by rw [w6]; exact fun z => nomatch z) rfl)
theorem ask_no {self : StF} {t z : Str} (w0 : W[0]? = some ("rows" : Str)) (w1 : W[1]? = some t) (ok : NmOk t) (w2 : W[2]? = some ("|" : Str)) (w3 : W[3]? = some ("where" : Str)) (r : fs_take_condition [RS W 4] [] = some (.inr z)) : runS 3 [0, 1] (mb_take_ask self) [RS W 0, BS 0 0 false] [] = some (.inr z) := by
  have f := first_eq h (self := self) (p := 0) (m := 0) (br := 0) (wh := false) w0 w1 ok (by decide)
  have s1 := where_no h (a := .tuple [.str "rows", .str t]) w3 r
  have b1 : lb1_take_ask self [some (RS W 3), some (BS 1 0 false), some (.tuple [.str "rows", .str t])] = some (.xc z [none, some (BS 2 0 false), some (.tuple [.str "rows", .str t])]) := by
    unfold lb1_take_ask
    exact y_seq (e1 := [some (RS W 3), some (BS 2 0 false), some (.tuple [.str "rows", .str t])]) (y_expE (mb_eq (r := [some (.tuple [.str "rows", .str t])]) rfl (count_eq (by decide)))) (y_asgX (c0a_no s1))
  unfold mb_take_ask
  refine ev_runSx (env := [none, some (BS 2 0 false), some (.tuple [.str "rows", .str t])]) ?_
  refine y_seq (e1 := [some (RS W 2), some (BS 1 0 false), some (.tuple [.str "rows", .str t])]) (y_asgE (cs_eq (r := [none]) f)) ?_
  exact y_seqX (while_yesX (k := 11) (tk_yes (x := none) h sh w2 rfl) b1)
end
section
variable {W : List Str} (h : W.length ≤ 100000)
include h
/-- read_ask, once take_ask is told -/
theorem read_askE {t : Str} {r : (PyData × List PyData) ⊕ Str} (hs : Txt.split t " " = W) (ht : t.length + 2 ≤ 100000) (e : fs_take_ask 2 [RS W 0, BS 0 0 false] [] = some r) (he : ∀ d ss, r = .inl (d, ss) → ∃ b, ss = [RS W W.length, b]) : fx_read_ask [.str t] = some (match r with
    | .inl (d, _) => .inl d
    | .inr z => .inr z) := by
  have first : mAsgN (mNew 1 fn_reader_of (mConsZ (zOf (mVar 0)) mNilZ)) 1 [some (.str t), none, none] = some (.nx [some (.str t), some (RS W 0), none]) := by
    have n : mNew 1 fn_reader_of (mConsZ (zOf (mVar 0)) mNilZ) [some (.str t), none, none] = some (.val (RS W 0) [some (.str t), none, none]) := by
      unfold mNew
      rw [zb (d := [.str t]) (e1 := [some (.str t), none, none]) rfl]
      show (if ([PyData.str t]).length = 1 then _ else _) = _
      rw [if_pos (show ([PyData.str t]).length = 1 from rfl), reader_eq hs ht]
      rfl
    unfold mAsgN
    exact y_asgE n
  have mk : mMake 1 fs_Bounds___init (mConsZ (zOf (mC c_MOST_PARTS)) mNilZ) [some (.str t), some (RS W 0), none] = some (.val (BS 0 0 false) [some (.str t), some (RS W 0), none]) := rfl
  have g : getS [(1, 0)] [some (.str t), some (RS W 0), none] = some [RS W 0] := rfl
  unfold fx_read_ask runY
  show (mb_read_ask [some (.str t), none, none]).bind _ = _
  unfold mb_read_ask
  cases r with
  | inl ds =>
    obtain ⟨d, ss⟩ := ds
    obtain ⟨b, rfl⟩ := he d ss rfl
    have c : mCG [(1, 0)] 0 (fs_take_ask 2) (mMake 1 fs_Bounds___init (mConsZ (zOf (mC c_MOST_PARTS)) mNilZ)) mNil [some (.str t), some (RS W 0), none] = some (.val d [some (.str t), some (RS W W.length), none]) := by
      unfold mCG
      rw [g, Option.bind_some]
      refine (zb mk).trans ?_
      show ((fs_take_ask 2 [RS W 0, BS 0 0 false] []).bind _) = _
      rw [e]
      rfl
    rw [y_seq first (y_seq (e1 := [some (.str t), some (RS W W.length), some d]) (y_asgE c) (y_seq (e1 := [some (.str t), some (RS W W.length), some d]) (y_expE (c1_at h (end_eq h))) (y_retE (d := d) (e1 := [some (.str t), some (RS W W.length), some d]) rfl)))]
    rfl
  | inr z =>
    have c : mCG [(1, 0)] 0 (fs_take_ask 2) (mMake 1 fs_Bounds___init (mConsZ (zOf (mC c_MOST_PARTS)) mNilZ)) mNil [some (.str t), some (RS W 0), none] = some (.xc z [some (.str t), none, none]) := by
      unfold mCG
      rw [g, Option.bind_some]
      refine (zb mk).trans ?_
      show ((fs_take_ask 2 [RS W 0, BS 0 0 false] []).bind _) = _
      rw [e]
      rfl
    rw [y_seq first (y_seqX (y_asgX c))]
    rfl
end
theorem wd_ask : ∀ w ∈ ([("rows" : Str), "a", "|", "where", "seal"] : List Str), Wd w := by
  intro w hw
  (simp only [List.mem_cons, List.not_mem_nil, or_false] at hw)
  rcases hw with rfl | rfl | rfl | rfl | rfl <;> exact ⟨by decide +kernel, by unfold noSp; decide +kernel⟩
theorem nm_a : NmOk "a" := by
  have e : ("a" : Str) = mkS [97] := by decide +kernel
  rw [e]
  exact ⟨⟨[97], rfl, by decide, by decide, fun c hc => by (simp only [List.mem_cons, List.not_mem_nil, or_false] at hc); subst hc; unfold Lc; decide⟩, by decide +kernel⟩
section
variable {t : BT} {i : Nat} (ok : t.c.Ok true) (at_ : t.Ats) (hp : t.c.parts ≤ 8) (hd : t.c.dep ≤ 9) (few : (glue (brk i t.ws)).length ≤ 50000)
include ok at_ hp hd few
theorem read_bt : fx_read_condition [.str (glue (brk i t.ws))] = some (if i + t.most ≤ 20 then .inl t.c.d else .inr "NoText") := by
  have wd := brk_wd (BT.wds t ok) i
  have ne := brk_ne t.ws_ne i
  have gw := glue_words (brk i t.ws)
  have hw : (brk i t.ws).length ≤ 100000 := by omega
  have sh : ∀ w ∈ brk i t.ws, SeqAt.shaped (.str w) = true := fun w q => (wd w q).1
  have none_ : (brk i t.ws)[0 + (brk i t.ws).length]? = none := by
    rw [Nat.zero_add]
    exact List.getElem?_eq_none (Nat.le_refl _)
  have r := all_or hw sh (rd_bt hw sh t ok at_) i 30 0 0 0 false (by omega) (by omega) (fun z => nomatch z) ⟨[], by simp⟩ (by rw [none_]; exact fun z => nomatch z) (by rw [none_]; exact fun z => nomatch z)
  by_cases z : i + t.most ≤ 20
  · rw [if_pos z, read_eq hw (split_ws ne wd) (by omega) (r.1 (by omega)), if_pos hp]
  · obtain ⟨c', h1, h2⟩ := r.2 (by omega)
    rw [if_neg z, read_eq hw (split_ws ne wd) (by omega) h2, if_neg (by omega)]
theorem read_at {W : List Str} (hw : W.length ≤ 100000) (sh : ∀ w ∈ W, SeqAt.shaped (.str w) = true) {p : Nat} (pre : Pre W p (brk i t.ws)) (h5 : W[p + (brk i t.ws).length]? ≠ some "and") (h6 : W[p + (brk i t.ws).length]? ≠ some "or") : fs_take_condition [RS W p] [] = some (if i + t.most ≤ 20 then .inl (t.c.d, [RS W (p + (brk i t.ws).length)]) else .inr "NoText") := by
  have r := all_or hw sh (rd_bt hw sh t ok at_) i 30 p 0 0 false (by omega) (by omega) (fun z => nomatch z) pre h5 h6
  by_cases z : i + t.most ≤ 20
  · rw [if_pos z]
    exact condP_ok ((r.1 (by omega)).ok (by omega))
  · obtain ⟨c', h1, h2⟩ := r.2 (by omega)
    rw [if_neg z]
    exact condP_no (h2.no (by omega) (by omega))
theorem read_ask_bt : fx_read_ask [.str (("rows a | where " : Str) ++ (glue (brk i t.ws) ++ (" | seal" : Str)))] = some (if i + t.most ≤ 20 then .inl (.tuple [.str "seal", .tuple [.str "where", .tuple [.str "rows", .str "a"], t.c.d]]) else .inr "NoText") := by
  have wd := brk_wd (BT.wds t ok) i
  have ne := brk_ne t.ws_ne i
  have gw := glue_words (brk i t.ws)
  generalize hB : brk i t.ws = B at wd ne gw
  have few2 : (glue B).length ≤ 50000 := by rw [← hB]; exact few
  let W : List Str := ("rows" : Str) :: ("a" : Str) :: ("|" : Str) :: ("where" : Str) :: (B ++ [("|" : Str), ("seal" : Str)])
  have eW : glue W = ("rows a | where " : Str) ++ (glue B ++ (" | seal" : Str)) := by
    show glue (("rows" : Str) :: ("a" : Str) :: ("|" : Str) :: ("where" : Str) :: (B ++ [("|" : Str), ("seal" : Str)])) = _
    rw [glue_cons (by simp), glue_cons (by simp), glue_cons (by simp), glue_cons (by simp), glue_app ne (by simp)]
    show ("rows" : Str) ++ (sp ++ (("a" : Str) ++ (sp ++ (("|" : Str) ++ (sp ++ (("where" : Str) ++ (sp ++ (glue B ++ (sp ++ (("|" : Str) ++ (sp ++ ("seal" : Str)))))))))))) = _
    rw [show ("rows a | where " : Str) = ("rows" : Str) ++ (sp ++ (("a" : Str) ++ (sp ++ (("|" : Str) ++ (sp ++ (("where" : Str) ++ sp)))))) by decide +kernel, show (" | seal" : Str) = sp ++ (("|" : Str) ++ (sp ++ ("seal" : Str))) by decide +kernel]
    simp only [s_assoc]
  have wdW : ∀ w ∈ W, Wd w := fun w hw => by
    have hw : w ∈ ("rows" : Str) :: ("a" : Str) :: ("|" : Str) :: ("where" : Str) :: (B ++ [("|" : Str), ("seal" : Str)]) := hw
    (simp only [List.mem_cons, List.mem_append, List.not_mem_nil, or_false] at hw)
    rcases hw with rfl | rfl | rfl | rfl | hw | rfl | rfl
    · exact wd_ask _ (by simp)
    · exact wd_ask _ (by simp)
    · exact wd_ask _ (by simp)
    · exact wd_ask _ (by simp)
    · exact wd w hw
    · exact wd_ask _ (by simp)
    · exact wd_ask _ (by simp)
  have lW : W.length = B.length + 6 := by
    show (("rows" : Str) :: ("a" : Str) :: ("|" : Str) :: ("where" : Str) :: (B ++ [("|" : Str), ("seal" : Str)])).length = _
    simp
  have hw : W.length ≤ 100000 := by omega
  have sh : ∀ w ∈ W, SeqAt.shaped (.str w) = true := fun w q => (wdW w q).1
  have pre : Pre W 4 (B ++ [("|" : Str), ("seal" : Str)]) := ⟨[], by simp [W]⟩
  obtain ⟨p1, p2⟩ := pre.app
  obtain ⟨w4, p3⟩ := p2.head
  obtain ⟨w5, _⟩ := p3.head
  have w6 : W[4 + B.length + 2]? = none := List.getElem?_eq_none (by omega)
  have rc := read_at ok at_ hp hd few hw sh (p := 4) (by rw [hB]; exact p1) (by rw [hB, w4]; decide +kernel) (by rw [hB, w4]; decide +kernel)
  rw [hB] at rc
  have tl : (("rows a | where " : Str) ++ (glue B ++ (" | seal" : Str))).length + 2 ≤ 100000 := by
    rw [s_len, s_len, show ("rows a | where " : Str).length = 15 by decide +kernel, show (" | seal" : Str).length = 7 by decide +kernel]
    omega
  have spl : Txt.split (("rows a | where " : Str) ++ (glue B ++ (" | seal" : Str))) " " = W := by
    rw [← eW]
    exact split_ws (by simp [W]) wdW
  by_cases z : i + t.most ≤ 20
  · rw [if_pos z] at rc ⊢
    have a := ask_ok hw sh (self := fs_take_ask 1) (t := "a") rfl rfl nm_a rfl rfl rc w4 w5 w6
    exact read_askE hw spl tl a fun d ss e => by
      cases e
      exact ⟨_, by rw [show W.length = 4 + B.length + 2 by omega]⟩
  · rw [if_neg z] at rc ⊢
    have a := ask_no hw sh (self := fs_take_ask 1) (t := "a") rfl rfl nm_a rfl rfl rc
    exact read_askE hw spl tl a fun d ss e => by cases e
end
theorem dep_p (c : CT) : 1 ≤ c.dep := by cases c <;> simp [CT.dep]
theorem dep_one : ∀ {c : CT}, c.dep ≤ 1 → c.parts = 1 := fun {c} h => by
  cases c with
  | neg a =>
    have := dep_p a
    exact absurd h (by show ¬ a.dep + 1 ≤ 1; omega)
  | con a b =>
    have := dep_p a
    have := Nat.le_max_left a.dep b.dep
    exact absurd h (by show ¬ max a.dep b.dep + 1 ≤ 1; omega)
  | dis a b =>
    have := dep_p a
    have := Nat.le_max_left a.dep b.dep
    exact absurd h (by show ¬ max a.dep b.dep + 1 ≤ 1; omega)
  | has t x y a =>
    have := dep_p a
    exact absurd h (by show ¬ a.dep + 1 ≤ 1; omega)
  | _ => rfl
theorem cond_ct {g : List Tab} (hg : ∀ t ∈ g, t.Gd) (g1 : g ≠ []) : ∀ (n p : Nat), 1 ≤ p → p ≤ n + 1 → p ≤ 100 → ∀ (ps : List Int) (c : PyData) (cols : List Str) (ways : Str) (j : Nat), 6 * p ≤ ps.length → Wy ways 1 1 j → (j = 1 → ∃ w2, Txt.replace ways "h" "" = w2 ∧ Wy w2 1 1 0 ∧ ways.length ≤ 100) → NmS cols c → NmA cols → cols ≠ [] →
    ∃ ct : CT, fm_law_condition (n + 1) [.list (ps.map .int), .int (p : Int), .tuple (g.map Tab.enc), c, .str ways] = some ct.d ∧ ct.Ok true ∧ ct.parts = p ∧ ct.dep ≤ p ∧ (j = 0 → CT.Ok.noHas ct)
  | n, p, p1, pn, p100, ps, c, cols, ways, j, hp, hw, hr, hn, hc, hne => by
    have test : mTst (mBin dLt (mVar 1) (mC (.int 2))) [some (.list (ps.map .int)), some (.int (p : Int)), some (.tuple (g.map Tab.enc)), some c, some (.str ways), none, none, none, none, none, none, none, none] = some (decide (p < 2)) := by
      refine ev_tst (ev_bin rfl rfl ?_)
      rw [dLt_int]
      refine congrArg (fun told => some (PyData.bool told)) ?_
      by_cases z : p < 2
      · rw [decide_eq_true z, decide_eq_true (by omega)]
      · rw [decide_eq_false z, decide_eq_false (by omega)]
    show ∃ ct : CT, runB 13 (mb_law_condition (fm_law_condition n)) [.list (ps.map .int), .int (p : Int), .tuple (g.map Tab.enc), c, .str ways] = some ct.d ∧ ct.Ok true ∧ ct.parts = p ∧ ct.dep ≤ p ∧ (j = 0 → CT.Ok.noHas ct)
    by_cases z : p < 2
    · rw [decide_eq_true z] at test
      obtain ⟨xs, a1, a2⟩ := atom_eq (ps := ps) (c := c) (ways := ways) (gt := g) (by omega) hw hn hc hne
      obtain ⟨ct, ec, o, dl, nh⟩ := Cd.ct hg a2 hc
      rw [← ec] at a1
      have d1 := dep_one dl
      refine ⟨ct, ?_, o, by omega, by omega, nh⟩
      unfold mb_law_condition
      exact ev_run (d := ct.d) (ev_ifR test (ev_ret (ev_cb (ev_cons rfl (ev_cons rfl (ev_cons rfl rfl))) a1))) rfl
    · rw [decide_eq_false z] at test
      obtain ⟨m, rfl⟩ := Nat.exists_eq_succ_of_ne_zero (show n ≠ 0 by omega)
      have ih := fun (q : Nat) (h1 : 1 ≤ q) (h2 : q < p) => cond_ct hg g1 m q h1 (by omega) (by omega)
      have j1 := hw.h1
      have hj := hw.ch
      have gt : mCB bInt (mCons (mBin dGt (mVar 1) (mC (.int 2))) mNil) [some (.list (ps.map .int)), some (.int (p : Int)), some (.tuple (g.map Tab.enc)), some c, some (.str ways), none, none, none, none, none, none, none, none] = some (.int ((if 2 < p then 1 else 0 : Nat) : Int)) := by
        by_cases y : 2 < p
        · rw [if_pos y]
          refine ev_cb (ev_cons (d := .bool true) (ev_bin rfl rfl ?_) rfl) rfl
          rw [dGt_int, decide_eq_true (by omega)]
        · rw [if_neg y]
          refine ev_cb (ev_cons (d := .bool false) (ev_bin rfl rfl ?_) rfl) rfl
          rw [dGt_int, decide_eq_false (by omega)]
      have le1 : (if 2 < p then 1 else 0 : Nat) ≤ 1 := by split <;> decide
      have words : mBin dAdd (mBin dAdd (mLst (mCons (mC (.str "not")) mNil)) (mRep (mCons (mC (.str "and")) (mCons (mC (.str "or")) (mCons (mC (.str "and")) (mCons (mC (.str "or")) mNil)))) (mCB bInt (mCons (mBin dGt (mVar 1) (mC (.int 2))) mNil)))) (mRep (mCons (mC (.str "has")) mNil) (mCount (mVar 4) (mC (.str "h")))) [some (.list (ps.map .int)), some (.int (p : Int)), some (.tuple (g.map Tab.enc)), some c, some (.str ways), none, none, none, none, none, none, none, none] = some (.list ((binL p j).map .str)) := by
        have r1 := ev_rep (ms := mCons (mC (.str "and")) (mCons (mC (.str "or")) (mCons (mC (.str "and")) (mCons (mC (.str "or")) mNil)))) (ds := [("and" : Str), "or", "and", "or"].map .str) rfl gt (by decide) le1
        have r2 := ev_rep (env := [some (.list (ps.map .int)), some (.int (p : Int)), some (.tuple (g.map Tab.enc)), some c, some (.str ways), none, none, none, none, none, none, none, none]) (ms := mCons (mC (.str "has")) mNil) (mn := mCount (mVar 4) (mC (.str "h"))) (ds := [("has" : Str)].map .str) rfl (ev_count rfl rfl hj) (by decide) j1
        rw [flat_map] at r1 r2
        have l1 : (List.replicate (if 2 < p then 1 else 0) [("and" : Str), "or", "and", "or"]).flatten.length ≤ 4 := by
          split <;> decide
        have l2 : (List.replicate j [("has" : Str)]).flatten.length ≤ 1 := by
          rcases Nat.le_one_iff_eq_zero_or_eq_one.mp j1 with rfl | rfl <;> decide
        refine ev_bin (ev_bin (lst1 rfl) r1 (dAdd_list (by rw [List.length_singleton, List.length_map]; omega))) r2 ?_
        rw [dAdd_list (by rw [List.length_append, List.length_singleton, List.length_map, List.length_map]; omega), binL, List.map_append, List.map_append]
        rfl
      have bne : binL p j ≠ [] := fun q => by
        unfold binL at q
        rw [List.append_assoc] at q
        cases q
      obtain ⟨w, hwd, w3⟩ := pick_col (env := [some (.list (ps.map .int)), some (.int (p : Int)), some (.tuple (g.map Tab.enc)), some c, some (.str ways), some (.list ((binL p j).map .str)), none, none, none, none, none, none, none]) (m := mVar 5) (k := 0) (cols := binL p j) .lst rfl rfl (by omega) bne
      obtain ⟨wk, sw⟩ := bin_mem j1 hwd
      have q1 : mTst (mBin dEq (mVar 6) (mC (.str "has"))) [some (.list (ps.map .int)), some (.int (p : Int)), some (.tuple (g.map Tab.enc)), some c, some (.str ways), some (.list ((binL p j).map .str)), some (.str w), none, none, none, none, none, none] = some (decide (w = "has")) := ev_tst (ev_bin rfl rfl (dEq_str sw (by decide +kernel)))
      have q2 : mTst (mBin dEq (mVar 6) (mC (.str "not"))) [some (.list (ps.map .int)), some (.int (p : Int)), some (.tuple (g.map Tab.enc)), some c, some (.str ways), some (.list ((binL p j).map .str)), some (.str w), none, none, none, none, none, none] = some (decide (w = "not")) := ev_tst (ev_bin rfl rfl (dEq_str sw (by decide +kernel)))
      have fewer : ∀ (x7 x8 x9 x10 x11 x12 : Option PyData), mBin dSub (mVar 1) (mC (.int 1)) [some (.list (ps.map .int)), some (.int (p : Int)), some (.tuple (g.map Tab.enc)), some c, some (.str ways), some (.list ((binL p j).map .str)), some (.str w), x7, x8, x9, x10, x11, x12] = some (.int ((p - 1 : Nat) : Int)) := fun _ _ _ _ _ _ => by
        refine ev_bin rfl rfl ?_
        rw [dSub_int]
        refine congrArg (fun z => some (PyData.int z)) ?_
        omega
      have rest : ∀ (x7 x8 x9 x10 x11 x12 : Option PyData), mSl (mVar 0) (mPart (mC (.int 6))) mNoPart [some (.list (ps.map .int)), some (.int (p : Int)), some (.tuple (g.map Tab.enc)), some c, some (.str ways), some (.list ((binL p j).map .str)), some (.str w), x7, x8, x9, x10, x11, x12] = some (.list ((ps.drop 6).map .int)) := fun _ _ _ _ _ _ => ev_sl rfl (ev_part rfl) rfl (slice_ints_from (a := 6) rfl)
      have dl : (ps.drop 6).length = ps.length - 6 := List.length_drop
      unfold mb_law_condition
      by_cases zh : w = "has"
      · rw [decide_eq_true zh] at q1
        have hj1 : j = 1 := by
          rcases wk with q | ⟨_, q⟩ | ⟨q, _⟩
          · rw [zh] at q
            exact absurd q (by decide)
          · exact q
          · rw [zh] at q
            exact absurd q (by decide)
        obtain ⟨w2, r1, r2, r3⟩ := hr hj1
        obtain ⟨te, hte, t1⟩ := pick_any (env := [some (.list (ps.map .int)), some (.int (p : Int)), some (.tuple (g.map Tab.enc)), some c, some (.str ways), some (.list ((binL p j).map .str)), some (.str w), none, none, none, none, none, none]) (m := mVar 2) (k := 1) (ds := g.map Tab.enc) (ps := ps) (.inr rfl) rfl rfl (by omega) (by simpa using g1)
        obtain ⟨t, ht, rfl⟩ := List.mem_map.mp hte
        have gd := hg t ht
        have nl : mLc [12] (mIt (mBin dIx (mVar 9) (mC (.int 2)))) (gB 12) mYes (le1_law_condition (fm_law_condition (m + 1))) [some (.list (ps.map .int)), some (.int (p : Int)), some (.tuple (g.map Tab.enc)), some c, some (.str ways), some (.list ((binL p j).map .str)), some (.str w), none, none, some t.enc, none, none, none] = some (.list ((t.cols.map Col.name).map .str)) := names_lc gd rfl fun _ => rfl
        obtain ⟨ct, a1, a2, a3, a4, a5⟩ := ih (p - 1) (by omega) (by omega) (ps.drop 6) (.list ((t.cols.map Col.name).map .str)) (t.cols.map Col.name) w2 0 (by omega) r2 (fun z => by cases z) .lst (Gd.names gd) (Gd.some_names gd)
        obtain ⟨x, hx, b1⟩ := pick_col (env := [some (.list (ps.map .int)), some (.int (p : Int)), some (.tuple (g.map Tab.enc)), some c, some (.str ways), some (.list ((binL p j).map .str)), some (.str w), none, none, some t.enc, some (.list ((t.cols.map Col.name).map .str)), some ct.d, none]) (m := mVar 3) (k := 2) hn rfl rfl (by omega) hne
        obtain ⟨y, hy, b2⟩ := pick_col (env := [some (.list (ps.map .int)), some (.int (p : Int)), some (.tuple (g.map Tab.enc)), some c, some (.str ways), some (.list ((binL p j).map .str)), some (.str w), none, none, some t.enc, some (.list ((t.cols.map Col.name).map .str)), some ct.d, none]) (m := mVar 10) (k := 3) (cols := t.cols.map Col.name) .lst rfl rfl (by omega) (Gd.some_names gd)
        refine ⟨.has t.name x y ct, ?_, ⟨rfl, gd.name, hc x hx, Gd.names gd y hy, a2, a5 rfl⟩, by show ct.parts + 1 = p; omega, by show ct.dep + 1 ≤ p; omega, fun z => by omega⟩
        refine ev_run (d := .tuple [.str w, .str t.name, .str x, .str y, ct.d]) ?_ (by rw [zh]; rfl)
        refine ev_ifF test rfl (ev_set words (ev_set w3 ?_))
        refine ev_ifR q1 (ev_set t1 (ev_set nl ?_))
        refine ev_set (d := ct.d) (ev_cb (ev_cons (rest _ _ _ _ _ _) (ev_cons (fewer _ _ _ _ _ _) (ev_cons rfl (ev_cons rfl (ev_cons (ev_repl2 rfl r1 r3) rfl))))) a1) ?_
        exact ev_ret (ev_tup (ev_cons rfl (ev_cons (ev_bin rfl rfl rfl) (ev_cons b1 (ev_cons b2 (ev_cons rfl rfl))))) (line_big (show 5 ≤ 100000 by decide)))
      rw [decide_eq_false zh] at q1
      by_cases zn : w = "not"
      · rw [decide_eq_true zn] at q2
        obtain ⟨ct, a1, a2, a3, a4, a5⟩ := ih (p - 1) (by omega) (by omega) (ps.drop 6) c cols ways j (by omega) hw hr hn hc hne
        refine ⟨.neg ct, ?_, a2, by show ct.parts + 1 = p; omega, by show ct.dep + 1 ≤ p; omega, a5⟩
        refine ev_run (d := .tuple [.str w, ct.d]) ?_ (by rw [zn]; rfl)
        refine ev_ifF test rfl (ev_set words (ev_set w3 (ev_ifF q1 rfl ?_)))
        exact ev_ifR q2 (ev_ret (tup2 rfl (ev_cb (ev_cons (rest _ _ _ _ _ _) (ev_cons (fewer _ _ _ _ _ _) (ev_cons rfl (ev_cons rfl (ev_cons rfl rfl))))) a1)))
      rw [decide_eq_false zn] at q2
      have p2 : 2 < p := by
        rcases wk with q | ⟨q, _⟩ | ⟨_, q⟩
        · exact absurd q zn
        · exact absurd q zh
        · exact q
      have m0 := Int.emod_nonneg (ps.getD 1 0) (show ((p : Int) - 2) ≠ 0 by omega)
      have m1 := Int.emod_lt_of_pos (ps.getD 1 0) (show (0 : Int) < (p : Int) - 2 by omega)
      obtain ⟨lf, elf⟩ := Int.eq_ofNat_of_zero_le m0
      rw [elf] at m1
      have lv : mBin dAdd (mC (.int 1)) (mBin dMod (mBin dIx (mVar 0) (mC (.int 1))) (mBin dSub (mVar 1) (mC (.int 2)))) [some (.list (ps.map .int)), some (.int (p : Int)), some (.tuple (g.map Tab.enc)), some c, some (.str ways), some (.list ((binL p j).map .str)), some (.str w), none, none, none, none, none, none] = some (.int ((lf + 1 : Nat) : Int)) := by
        refine ev_bin (b := .int (ps.getD 1 0 % ((p : Int) - 2))) rfl (ev_bin (ev_bin rfl rfl (pick_get (k := 1) (by omega))) (ev_bin rfl rfl (dSub_int _ _)) (dMod_int (by omega))) ?_
        rw [dAdd_int, elf]
        refine congrArg (fun z => some (PyData.int z)) ?_
        omega
      have six : ∀ (x8 x9 x10 x11 x12 : Option PyData), mBin dAdd (mC (.int 6)) (mBin dMul (mC (.int 6)) (mVar 7)) [some (.list (ps.map .int)), some (.int (p : Int)), some (.tuple (g.map Tab.enc)), some c, some (.str ways), some (.list ((binL p j).map .str)), some (.str w), some (.int ((lf + 1 : Nat) : Int)), x8, x9, x10, x11, x12] = some (.int ((6 + 6 * (lf + 1) : Nat) : Int)) := fun _ _ _ _ _ => by
        refine ev_bin (b := .int (6 * ((lf + 1 : Nat) : Int))) rfl (ev_bin rfl rfl (dMul_int (cmulL (by decide) (by decide)))) ?_
        rw [dAdd_int]
        refine congrArg (fun z => some (PyData.int z)) ?_
        omega
      obtain ⟨c1, a1, a2, a3, a4, a5⟩ := ih (lf + 1) (by omega) (by omega) ((ps.drop 6).take (6 + 6 * (lf + 1) - 6)) c cols ways j (by rw [List.length_take, dl]; omega) hw hr hn hc hne
      obtain ⟨c2, b1, b2, b3, b4, b5⟩ := ih (p - 1 - (lf + 1)) (by omega) (by omega) (ps.drop (6 + 6 * (lf + 1))) c cols ways j (by rw [List.length_drop]; omega) hw hr hn hc hne
      have key : ∃ r : CT, r.d = .tuple [.str w, c1.d, c2.d] ∧ r.Ok true ∧ r.parts = p ∧ r.dep ≤ p ∧ (j = 0 → CT.Ok.noHas r) := by
        have mx : max c1.dep c2.dep + 1 ≤ p := by
          rcases Nat.le_total c1.dep c2.dep with z | z
          · rw [Nat.max_eq_right z]
            omega
          · rw [Nat.max_eq_left z]
            omega
        rcases wk with z | ⟨z, _⟩ | ⟨z | z, _⟩
        · exact absurd z zn
        · exact absurd z zh
        · subst z
          exact ⟨.con c1 c2, rfl, ⟨a2, b2⟩, by show c1.parts + c2.parts + 1 = p; omega, mx, fun z => ⟨a5 z, b5 z⟩⟩
        · subst z
          exact ⟨.dis c1 c2, rfl, ⟨a2, b2⟩, by show c1.parts + c2.parts + 1 = p; omega, mx, fun z => ⟨a5 z, b5 z⟩⟩
      obtain ⟨r, er, r2, r3, r4, r5⟩ := key
      refine ⟨r, ?_, r2, r3, r4, r5⟩
      refine ev_run (d := .tuple [.str w, c1.d, c2.d]) ?_ (by rw [er])
      refine ev_ifF test rfl (ev_set words (ev_set w3 (ev_ifF q1 rfl (ev_ifF q2 rfl (ev_set lv ?_)))))
      refine ev_set (d := c1.d) (ev_cb (ev_cons (ev_sl rfl (ev_part rfl) (ev_part (six _ _ _ _ _)) (slice_ints (a := 6) (b := 6 + 6 * (lf + 1)) rfl rfl)) (ev_cons rfl (ev_cons rfl (ev_cons rfl (ev_cons rfl rfl))))) a1) ?_
      have lst : mBin dSub (mBin dSub (mVar 1) (mC (.int 1))) (mVar 7) [some (.list (ps.map .int)), some (.int (p : Int)), some (.tuple (g.map Tab.enc)), some c, some (.str ways), some (.list ((binL p j).map .str)), some (.str w), some (.int ((lf + 1 : Nat) : Int)), some (c1.d), none, none, none, none] = some (.int ((p - 1 - (lf + 1) : Nat) : Int)) := by
        refine ev_bin (fewer _ _ _ _ _ _) rfl ?_
        rw [dSub_int]
        refine congrArg (fun z => some (PyData.int z)) ?_
        omega
      exact ev_ret (ev_tup (ev_cons rfl (ev_cons rfl (ev_cons (ev_cb (ev_cons (ev_sl rfl (ev_part (six _ _ _ _ _)) rfl (slice_ints_from (a := 6 + 6 * (lf + 1)) rfl)) (ev_cons lst (ev_cons rfl (ev_cons rfl (ev_cons rfl rfl))))) b1) rfl))) (line_big (show 3 ≤ 100000 by decide)))
section
variable {T : Str} {r : PyData ⊕ Str}
theorem lx_done (k : Int) {r : PyData ⊕ Str} (l : lx1_law_told [some (.str T), some (.int k), some .none, some (.list []), none] = (match r with
    | .inl d => some (.fl (.nx [some (.str T), some (.int k), some d, some (.list []), none]))
    | .inr z => some (.xc z [some (.str T), some (.int k), some .none, some (.list []), none]))) : (∀ d, r = .inl d → fm_law_told [.str T, .int k] = some (.tuple [d, .list []])) ∧ (r = .inr "NoText" → fm_law_told [.str T, .int k] = some (.tuple [.none, kinR_NoText])) := by
  refine ⟨fun d e => ?_, fun e => ?_⟩
  · subst e
    unfold fm_law_told mb_law_told
    refine ev_run (d := .tuple [d, .list []]) (ev_set rfl (ev_set (ev_lst (ds := []) rfl (line_big (by decide))) ?_)) rfl
    show mSeq (mTry lx1_law_told kinD 4 3) _ [some (.str T), some (.int k), some .none, some (.list []), none] = _
    unfold mSeq mTry
    rw [l]
    rfl
  · subst e
    unfold fm_law_told mb_law_told
    refine ev_run (d := .tuple [.none, kinR_NoText]) (ev_set rfl (ev_set (ev_lst (ds := []) rfl (line_big (by decide))) ?_)) rfl
    show mSeq (mTry lx1_law_told kinD 4 3) _ [some (.str T), some (.int k), some .none, some (.list []), none] = _
    unfold mSeq mTry
    rw [l]
    rfl
theorem lx_test {k : Int} {b : Bool} (h : decide (k = 0) = b) : mTst (mBin dEq (mVar 1) (mC (.int 0))) [some (.str T), some (.int k), some .none, some (.list []), none] = some b := by
  refine ev_tst (ev_bin rfl rfl ?_)
  rw [dEq_int]
  exact congrArg (fun z => some (PyData.bool z)) ((by by_cases z : k = 0 <;> simp [z] : (k == 0) = decide (k = 0)).trans h)
theorem told_0 (hr : fx_read_condition [.str T] = some r) : (∀ d, r = .inl d → fm_law_told [.str T, .int 0] = some (.tuple [d, .list []])) ∧ (r = .inr "NoText" → fm_law_told [.str T, .int 0] = some (.tuple [.none, kinR_NoText])) := by
  refine lx_done 0 ?_
  unfold lx1_law_told mIfX
  rw [lx_test (b := true) rfl, Option.bind_some, if_pos rfl]
  unfold mCX
  show ((fx_read_condition [.str T]).bind _) = _
  rw [hr]
  cases r <;> rfl
theorem told_1 (few : T.length ≤ 50000) (hr : fx_read_ask [.str (("rows a | where " : Str) ++ (T ++ (" | seal" : Str)))] = some r) : (∀ d, r = .inl d → fm_law_told [.str T, .int 1] = some (.tuple [d, .list []])) ∧ (r = .inr "NoText" → fm_law_told [.str T, .int 1] = some (.tuple [.none, kinR_NoText])) := by
  refine lx_done 1 ?_
  unfold lx1_law_told mIfX
  rw [lx_test (b := false) (by decide), Option.bind_some, if_neg Bool.false_ne_true]
  have l1 : ("rows a | where " : Str).length = 15 := by decide +kernel
  have l2 : (" | seal" : Str).length = 7 := by decide +kernel
  have ar : mCons (mBin dAdd (mBin dAdd (mC (.str "rows a | where ")) (mVar 0)) (mC (.str " | seal"))) mNil [some (.str T), some (.int 1), some .none, some (.list []), none] = some [.str (("rows a | where " : Str) ++ (T ++ (" | seal" : Str)))] := by
    refine ev_cons (ev_bin (a := .str (("rows a | where " : Str) ++ T)) (ev_bin rfl rfl (dAdd_s (by rw [l1]; omega))) rfl ?_) rfl
    rw [dAdd_s (by rw [s_len, l1, l2]; omega), s_assoc]
  unfold mCX
  rw [ar, Option.bind_some, hr]
  cases r <;> rfl
end
def sealed (d : PyData) : PyData := .tuple [.str "seal", .tuple [.str "where", .tuple [.str "rows", .str "a"], d]]
def wayE (x0 x1 : Option PyData) (ps : List Int) (g : List Tab) (cols : List Str) (c : CT) (z7 : Option PyData) (T : Str) (M : Nat) : En := [x0, x1, some (.list (ps.map .int)), some (.tuple (g.map Tab.enc)), some (.tuple (cols.map .str)), some c.d, some (.list [c.d, sealed c.d]), z7, some (.str T), some (.int (M : Int))]
theorem lay_sealed {c : CT} (ok : c.Ok true) : Lay (c.dep + 3) (sealed c.d) := by
  have l := CT.lay c ok
  exact .tup (.cons (.str (by decide +kernel)) (.cons (.tup (.cons (.str (by decide +kernel)) (.cons (.mono (n := 1) (.tup (.cons (.str (by decide +kernel)) (.cons (.str (by decide +kernel)) .nil))) (by omega)) (.cons (l.mono (Nat.le_succ _)) .nil)))) .nil))
theorem one_way {t : BT} {i : Nat} (ok : t.c.Ok true) (at_ : t.Ats) (hp : t.c.parts ≤ 8) (hd : t.c.dep ≤ 9) (few : (glue (brk i t.ws)).length ≤ 50000) {x0 x1 : Option PyData} {ps : List Int} {g : List Tab} {cols : List Str} {k : Nat} (hk : k < 2) :
    lb1_law (wayE x0 x1 ps g cols t.c (some (.int (k : Int))) (glue (brk i t.ws)) (i + t.most)) = some (.nx (wayE x0 x1 ps g cols t.c (some (.int (k : Int))) (glue (brk i t.ws)) (i + t.most))) := by
  have lay := CT.lay t.c ok
  have lays := lay_sealed ok
  let env := wayE x0 x1 ps g cols t.c (some (.int (k : Int))) (glue (brk i t.ws)) (i + t.most)
  have due : ∃ d, mBin dIx (mVar 6) (mVar 7) env = some d ∧ Lay 13 d ∧ (i + t.most ≤ 20 → fm_law_told [.str (glue (brk i t.ws)), .int (k : Int)] = some (.tuple [d, .list []])) ∧ (¬ i + t.most ≤ 20 → fm_law_told [.str (glue (brk i t.ws)), .int (k : Int)] = some (.tuple [.none, kinR_NoText])) := by
    rcases (by omega : k = 0 ∨ k = 1) with rfl | rfl
    · have r := read_bt ok at_ hp hd few
      refine ⟨t.c.d, rfl, lay.mono (by omega), fun z => ?_, fun z => ?_⟩
      · rw [if_pos z] at r
        exact (told_0 r).1 _ rfl
      · rw [if_neg z] at r
        exact (told_0 r).2 rfl
    · have r := read_ask_bt ok at_ hp hd few
      refine ⟨sealed t.c.d, rfl, lays.mono (by omega), fun z => ?_, fun z => ?_⟩
      · rw [if_pos z] at r
        exact (told_1 few r).1 _ rfl
      · rw [if_neg z] at r
        exact (told_1 few r).2 rfl
  obtain ⟨d, e1, l1, e2, e3⟩ := due
  have lt : mTst (mBin dLt (mVar 9) (mC (.int 21))) env = some (decide (((i + t.most : Nat) : Int) < (21 : Nat))) := lt_test (n := i + t.most) rfl
  have lb : mLst (mCons (mC (.str "NoText")) (mCons (mC (.str "ValueError")) mNil)) env = some kinR_NoText := ev_lst (ev_cons rfl (ev_cons rfl rfl)) (line_big (show 2 ≤ 100000 by decide))
  unfold lb1_law
  refine ev_if1F ?_ rfl
  by_cases z : i + t.most ≤ 20
  · refine ev_tst (ev_bin (ev_cb (ev_cons rfl (ev_cons rfl rfl)) (e2 z)) (ev_iT (lt.trans (congrArg some (lt_yes (by omega)))) (tup2 e1 lst0)) (dNe_refl ?_))
    exact (Lay.tup (n := 13) (.cons l1 (.cons (.mono (n := 1) (.lst .nil) (by decide)) .nil))).shaped (by decide)
  · refine ev_tst (ev_bin (ev_cb (ev_cons rfl (ev_cons rfl rfl)) (e3 z)) (ev_iF (lt.trans (congrArg some (lt_no (by omega)))) (tup2 rfl lb)) (dNe_refl ?_))
    exact (Lay.tup (n := 1) (.cons .none (.cons (.lst kin_lay) .nil))).shaped (by decide)
theorem one_cell (x0 z2 z3 z4 z5 z6 z7 z8 z9 : Option PyData) (c : Int) : ∃ e', lb2_law [x0, some (.int c), z2, z3, z4, z5, z6, z7, z8, z9] = some (.nx e') ∧ ∃ z1 z2 z3 z4 z5 z6 z7 z8 z9, e' = [x0, z1, z2, z3, z4, z5, z6, z7, z8, z9] := by
  obtain ⟨ps, d1, d2, d3⟩ := draws_eq c 900 (by decide)
  obtain ⟨ts, g1, g2, g3, g4⟩ := ground_eq (ps := ps) (top := 1000) (by omega) d3 (by decide) (by decide)
  generalize hg : ts.mergeSort tabLe = g at g1
  have hlen : g.length = ts.length := by rw [← hg, List.length_mergeSort]
  have gd : ∀ t ∈ g, t.Gd := fun t ht => by
    rw [← hg] at ht
    exact g2.each t (List.mem_mergeSort.mp ht)
  have gne : g ≠ [] := fun z => by
    rw [z] at hlen
    simp at hlen
    omega
  obtain ⟨cols, c1, c2, c3⟩ := some_columns_eq (ps := ps.drop 150) (by rw [List.length_drop]; omega) gd gne
  have wy : Wy "lm" 1 1 0 := ⟨by decide, by decide, by decide, by decide +kernel, by decide +kernel, by decide +kernel⟩
  have wy2 : Wy "lmh" 1 1 1 := ⟨by decide, by decide, by decide, by decide +kernel, by decide +kernel, by decide +kernel⟩
  have n0 := Int.emod_nonneg (ps.getD 160 0) (show (8 : Int) ≠ 0 by decide)
  have n1 := Int.emod_lt_of_pos (ps.getD 160 0) (show (0 : Int) < 8 by decide)
  obtain ⟨q, eq⟩ := Int.eq_ofNat_of_zero_le n0
  obtain ⟨ct, i1, ok, pq, dq, _⟩ := cond_ct gd gne 9 (q + 1) (by omega) (by omega) (by omega) (ps.drop 170) (.tuple (cols.map .str)) cols "lmh" 1 (by rw [List.length_drop]; omega) wy2 (fun _ => ⟨"lm", by decide +kernel, wy, by decide⟩) .tup c2 c3
  have pw : 2 ^ (ct.parts + 1) ≤ (ps.drop 230).length := by
    have : 2 ^ (ct.parts + 1) ≤ 2 ^ 9 := Nat.pow_le_pow_right (by decide) (by omega)
    rw [List.length_drop]
    omega
  obtain ⟨t, i, ec, at_, hi, gl, we⟩ := wide_eq ct 10 (ps.drop 230) 0 ok (by omega) (by omega) pw
  have bg := brk_glen t.ws_ne i
  subst ec
  rw [Int.zero_add] at we
  have few : (glue (brk i t.ws)).length ≤ 50000 := by omega
  have loop : ∃ e', loopD (gB 7) lb1_law (rangeD 0 2) (wayE x0 (some (.int c)) ps g cols t.c z7 (glue (brk i t.ws)) (i + t.most)) = some (.nx e') ∧ ∃ z7', e' = wayE x0 (some (.int c)) ps g cols t.c z7' (glue (brk i t.ws)) (i + t.most) := by
    refine loop_range (fun _ e => ∃ z7', e = wayE x0 (some (.int c)) ps g cols t.c z7' (glue (brk i t.ws)) (i + t.most)) ⟨z7, rfl⟩ fun j e hj he => ?_
    obtain ⟨y7, rfl⟩ := he
    rw [Int.zero_add]
    exact ⟨_, _, rfl, .inl (one_way ok at_ (by omega) (by omega) few hj), _, rfl⟩
  obtain ⟨e', h1, y7, rfl⟩ := loop
  refine ⟨wayE x0 (some (.int c)) ps g cols t.c y7 (glue (brk i t.ws)) (i + t.most), ?_, some (.int c), some (.list (ps.map .int)), some (.tuple (g.map Tab.enc)), some (.tuple (cols.map .str)), some t.c.d, some (.list [t.c.d, sealed t.c.d]), y7, some (.str (glue (brk i t.ws))), some (.int ((i + t.most : Nat) : Int)), rfl⟩
  unfold lb2_law
  refine ev_set (d := .list (ps.map .int)) (ev_cb (ev_cons rfl (ev_cons rfl (ev_cons rfl rfl))) d1) ?_
  refine ev_set (d := .tuple (g.map Tab.enc)) (ev_cb (ev_cons rfl (ev_cons rfl rfl)) g1) ?_
  refine ev_set (d := .tuple (cols.map .str)) (ev_cb (ev_cons (ev_sl rfl (ev_part rfl) rfl (slice_ints_from (a := 150) rfl)) (ev_cons rfl rfl)) c1) ?_
  have many : mBin dAdd (mC (.int 1)) (mBin dMod (mBin dIx (mVar 2) (mC (.int 160))) (mC (.int 8))) [x0, some (.int c), some (.list (ps.map .int)), some (.tuple (g.map Tab.enc)), some (.tuple (cols.map .str)), z5, z6, z7, z8, z9] = some (.int ((q + 1 : Nat) : Int)) := by
    refine ev_bin (b := .int (ps.getD 160 0 % 8)) rfl (ev_bin (ev_bin rfl rfl (pick_get (k := 160) (by omega))) rfl (dMod_int (by decide))) ?_
    rw [dAdd_int, eq]
    refine congrArg (fun z => some (PyData.int z)) ?_
    omega
  refine ev_set (d := t.c.d) (ev_cb (ev_cons (ev_sl rfl (ev_part rfl) rfl (slice_ints_from (a := 170) rfl)) (ev_cons many (ev_cons rfl (ev_cons rfl (ev_cons rfl rfl))))) i1) ?_
  refine ev_bnd (d := .tuple [.str (glue (brk i t.ws)), .int ((i + t.most : Nat) : Int)]) (ev_cb (ev_cons rfl (ev_cons (ev_sl rfl (ev_part rfl) rfl (slice_ints_from (a := 230) rfl)) (ev_cons rfl rfl))) we) rfl ?_
  refine ev_set (d := .list [t.c.d, sealed t.c.d]) (ev_lst (ev_cons rfl (ev_cons (tup2 rfl (ev_tup (ev_cons rfl (ev_cons (tup2 rfl rfl) (ev_cons rfl rfl))) (line_big (show 3 ≤ 100000 by decide)))) rfl)) (line_big (show 2 ≤ 100000 by decide))) ?_
  exact ev_for1 (ds := rangeD 0 2) (ev_rng (ev_cons rfl rfl) (rng1_ok (by decide) (by decide))) h1 rfl
theorem law_true : ∀ ns : List Int, ns.length ≤ 63 → fm_law [.list (ns.map .int)] = some (.bool true) := fun ns hl => by
  generalize hc : (ns.getD 0 0 :: ((ns.drop 1).take 7)) = cells
  have loop : ∃ e', loopD (gB 1) lb2_law (cells.map .int) [some (.list (ns.map .int)), none, none, none, none, none, none, none, none, none] = some (.nx e') ∧ ∃ z1 z2 z3 z4 z5 z6 z7 z8 z9, e' = [some (.list (ns.map .int)), z1, z2, z3, z4, z5, z6, z7, z8, z9] := by
    refine loop_inv (fun _ e => ∃ z1 z2 z3 z4 z5 z6 z7 z8 z9, e = [some (.list (ns.map .int)), z1, z2, z3, z4, z5, z6, z7, z8, z9]) ⟨none, none, none, none, none, none, none, none, none, rfl⟩ fun i d e hd hi => ?_
    obtain ⟨z1, z2, z3, z4, z5, z6, z7, z8, z9, rfl⟩ := hi
    rw [List.getElem?_map] at hd
    cases hx : cells[i]? with
    | none =>
      rw [hx] at hd
      cases hd
    | some c =>
      rw [hx] at hd
      cases hd
      obtain ⟨e', h1, h2⟩ := one_cell (some (.list (ns.map .int))) z2 z3 z4 z5 z6 z7 z8 z9 c
      exact ⟨_, e', rfl, .inl h1, h2⟩
  obtain ⟨e', h1, z1, z2, z3, z4, z5, z6, z7, z8, z9, rfl⟩ := loop
  unfold fm_law mb_law
  refine ev_run (d := .bool true) ?_ rfl
  refine ev_for (ds := cells.map .int) (ev_it (d := .list (cells.map .int)) (ev_bin (a := .list [.int (ns.getD 0 0)]) (b := .list (((ns.drop 1).take 7).map .int)) (lst1 (ev_cb (ev_cons rfl (ev_cons rfl rfl)) (cell_eq ns hl))) (ev_sl rfl (ev_part (i := 1) rfl) (ev_part (i := 8) rfl) ?_) ?_) rfl) h1 (ev_ret rfl)
  · exact slice_ints (a := 1) (b := 8) rfl rfl
  · rw [dAdd_list (by rw [List.length_map, List.length_take]; simp; omega), ← hc]
    rfl
end Rv
namespace Rv
open PySem L2 PySem.Spec PyProof.Rows
section
open PySem.W
def vC : Value → V
  | .str x _ => .str x
  | .int i _ => .int i
  | .ref a => .ref a
  | _ => .non
theorem cB_all {K : PySem.W.Frag} {n : Nat} (ih : ∀ v d, cB K n v d = true → RelV (vC v) v ∧ ∀ H, Dp K H (vC v) d) : ∀ (us : List Value) (ds : List PyData), us.length = ds.length → ((us.zip ds).all fun p => cB K n p.1 p.2) = true → Vals (us.map vC) us ∧ ∀ H, DpAll K H (us.map vC) ds
  | [], [], _, _ => ⟨.nil, fun _ => .nil⟩
  | u :: us, d :: ds, hl, h => by
    rw [List.zip_cons_cons, List.all_cons, Bool.and_eq_true] at h
    obtain ⟨r1, r2⟩ := ih u d h.1
    obtain ⟨s1, s2⟩ := cB_all ih us ds (Nat.succ.inj hl) h.2
    exact ⟨.cons r1 s1, fun H => .cons (r2 H) (s2 H)⟩
  | [], _ :: _, hl, _ => nomatch hl
  | _ :: _, [], hl, _ => nomatch hl
theorem cB_ok {K : PySem.W.Frag} : ∀ (n : Nat) (v : Value) (d : PyData), cB K n v d = true → RelV (vC v) v ∧ ∀ H, Dp K H (vC v) d
  | 0, v, d, h => by cases h
  | n + 1, v, d, h => by
    unfold cB at h
    split at h
    · have := of_decide_eq_true h
      subst this
      exact ⟨⟨_, rfl⟩, fun _ => .str _⟩
    · have := of_decide_eq_true h
      subst this
      exact ⟨⟨_, rfl⟩, fun _ => .int _⟩
    · rename_i n' a ds
      split at h
      case h_1 c od its m osl e =>
        rw [Bool.and_eq_true, Bool.and_eq_true, Bool.and_eq_true] at h
        obtain ⟨h1, h2, h3, h4⟩ := h
        have e1 : c = "tuple" := of_decide_eq_true h1
        have e2 := of_decide_eq_true h2
        subst e1
        obtain ⟨s1, s2⟩ := cB_all (cB_ok _) _ _ (of_decide_eq_true h3) h4
        refine ⟨rfl, fun H => .tup (.inr ⟨_, its, m, e, rfl, rfl, ?_, s1⟩) (s2 H)⟩
        rw [sizeLine_eq]
        omega
      case h_2 => cases h
    · cases h
theorem ent_all {K : PySem.W.Frag} : ∀ (es : List DictEntry) (tab : List (Str × PyData)), es.length = tab.length → ((es.zip tab).all fun p => (match p.1.key with
    | .str x _ => decide (x = p.2.1)
    | _ => false) && cB K 9 p.1.val p.2.2) = true → EntD K es tab
  | [], [], _, _ => .nil
  | en :: es, p :: tab, hl, h => by
    rw [List.zip_cons_cons, List.all_cons, Bool.and_eq_true, Bool.and_eq_true] at h
    obtain ⟨⟨h1, h2⟩, h3⟩ := h
    have ih := ent_all es tab (Nat.succ.inj hl) h3
    obtain ⟨r, d⟩ := cB_ok 9 _ _ h2
    obtain ⟨hs, key, u⟩ := en
    obtain ⟨z, pd⟩ := p
    cases key with
    | str x t =>
      have e : x = z := of_decide_eq_true h1
      subst e
      exact .cons r d ih
    | _ => cases h1
  | [], _ :: _, hl, _ => nomatch hl
  | _ :: _, [], hl, _ => nomatch hl
theorem ent_ok {K : PySem.W.Frag} {w : World} {a : Addr} {es : Array DictEntry} {n : Nat} {tab : List (Str × PyData)} (D : KDict K w a es n) (h : entB K a tab = true) : KDt K w a tab := by
  refine ⟨es, n, D, ?_⟩
  unfold entB at h
  rw [D.at_] at h
  dsimp only at h
  rw [Bool.and_eq_true] at h
  exact ent_all _ _ (of_decide_eq_true h.1) h.2
end
section
theorem errB_ok {K : PySem.W.Frag} {C : Addr} (h : errB K C = true) : ErrC K C := by
  (obtain ⟨a, b⟩ := Bool.and_eq_true_iff.mp h)
  exact ⟨of_decide_eq_true a, b⟩
theorem subB_ok {K : PySem.W.Frag} {C : Addr} {v : Value} {b : Bool} (h : subB K C v b = true) : PySem.W.subIn K (.ref C) v = some b := of_decide_eq_true h
theorem raiB_ok {K : PySem.W.Frag} {C : Addr} (h : raiB K C = true) : ErrR K C := by
  obtain ⟨a1, h⟩ := Bool.and_eq_true_iff.mp h
  obtain ⟨a2, h⟩ := Bool.and_eq_true_iff.mp h
  obtain ⟨a3, h⟩ := Bool.and_eq_true_iff.mp h
  obtain ⟨a4, h⟩ := Bool.and_eq_true_iff.mp h
  obtain ⟨a5, h⟩ := Bool.and_eq_true_iff.mp h
  obtain ⟨a6, h⟩ := Bool.and_eq_true_iff.mp h
  obtain ⟨a7, h⟩ := Bool.and_eq_true_iff.mp h
  obtain ⟨a8, h⟩ := Bool.and_eq_true_iff.mp h
  obtain ⟨a9, h⟩ := Bool.and_eq_true_iff.mp h
  obtain ⟨b1, b2⟩ := Bool.and_eq_true_iff.mp h
  exact ⟨a1, a2, subB_ok a3, subB_ok a4, ⟨of_decide_eq_true a5, of_decide_eq_true a6, subB_ok a3, a7, of_decide_eq_true a8, of_decide_eq_true a9, of_decide_eq_true b1, of_decide_eq_true b2⟩⟩
end
end Rv
namespace Rv
open PySem L2 PySem.Spec PyProof.Rows
def kcOf (K : PySem.W.Frag) : Nat → Addr | 0 => He.ga K "Reader" | 1 => He.ga K "Bounds" | _ => He.ga K "Reader"
abbrev lawLz (K : PySem.W.Frag) : Lz := ⟨fun _ => none, fun p I h => (by cases h), [], fun _ _ _ => Str.empty, kcOf K, fun _ _ => .data⟩
theorem jj0 (K : PySem.W.Frag) (H : Hp) : @JJ (lawLz K) H := ⟨(fun p I z => (by cases z)), fun p hp => absurd hp List.not_mem_nil⟩
set_option maxHeartbeats 0 in
theorem txt_of {w : World} {K : PySem.W.Frag} {h : Heap} {mg : Str → Option Value} (KX : K.In h) (G : h.Ns mainGlobals mg) (c : He.SaysX faL fnL tsL tfL exB w h K) : ∃ T : @Txt (lawLz K) K mg w, @Txt.f_law (lawLz K) K mg w T = He.ga K "law" ∧ ∀ (s : Shared) (v : Value), BindsTo s (@Txt.fd_law (lawLz K) K mg w T) ⟨[v], []⟩ [("script", v)] := by
  have cd := c.t.d
  obtain ⟨fd_Reader___init, D_Reader___init⟩ := cd.def_ 0 rfl
  have b_Reader___init := FunD.bindsN (ps := ["self", "words"]) D_Reader___init fun _ _ _ _ _ _ us hl => match us, hl with | [_, _], _ => rfl
  obtain ⟨fd_Reader_ahead, D_Reader_ahead⟩ := cd.def_ 1 rfl
  have b_Reader_ahead := FunD.bindsN (ps := ["self"]) D_Reader_ahead fun _ _ _ _ _ _ us hl => match us, hl with | [_], _ => rfl
  obtain ⟨fd_Reader_take, D_Reader_take⟩ := cd.def_ 2 rfl
  have b_Reader_take := FunD.bindsN (ps := ["self"]) D_Reader_take fun _ _ _ _ _ _ us hl => match us, hl with | [_], _ => rfl
  obtain ⟨fd_Reader_takes, D_Reader_takes⟩ := cd.def_ 3 rfl
  have b_Reader_takes := FunD.bindsN (ps := ["self", "word"]) D_Reader_takes fun _ _ _ _ _ _ us hl => match us, hl with | [_, _], _ => rfl
  obtain ⟨fd_Reader_take_this, D_Reader_take_this⟩ := cd.def_ 4 rfl
  have b_Reader_take_this := FunD.bindsN (ps := ["self", "word"]) D_Reader_take_this fun _ _ _ _ _ _ us hl => match us, hl with | [_, _], _ => rfl
  obtain ⟨fd_Reader_take_name, D_Reader_take_name⟩ := cd.def_ 5 rfl
  have b_Reader_take_name := FunD.bindsN (ps := ["self"]) D_Reader_take_name fun _ _ _ _ _ _ us hl => match us, hl with | [_], _ => rfl
  obtain ⟨fd_Reader_take_number, D_Reader_take_number⟩ := cd.def_ 6 rfl
  have b_Reader_take_number := FunD.bindsN (ps := ["self", "most"]) D_Reader_take_number fun _ _ _ _ _ _ us hl => match us, hl with | [_, _], _ => rfl
  obtain ⟨fd_Reader_take_names, D_Reader_take_names⟩ := cd.def_ 7 rfl
  have b_Reader_take_names := FunD.bindsN (ps := ["self"]) D_Reader_take_names fun _ _ _ _ _ _ us hl => match us, hl with | [_], _ => rfl
  obtain ⟨fd_Bounds___init, D_Bounds___init⟩ := cd.def_ 8 rfl
  have b_Bounds___init := FunD.bindsN (ps := ["self", "most"]) D_Bounds___init fun _ _ _ _ _ _ us hl => match us, hl with | [_, _], _ => rfl
  obtain ⟨fd_Bounds_count_part, D_Bounds_count_part⟩ := cd.def_ 9 rfl
  have b_Bounds_count_part := FunD.bindsN (ps := ["self"]) D_Bounds_count_part fun _ _ _ _ _ _ us hl => match us, hl with | [_], _ => rfl
  obtain ⟨fd_Bounds_count_pair, D_Bounds_count_pair⟩ := cd.def_ 10 rfl
  have b_Bounds_count_pair := FunD.bindsN (ps := ["self"]) D_Bounds_count_pair fun _ _ _ _ _ _ us hl => match us, hl with | [_], _ => rfl
  obtain ⟨fd_Bounds_enter_bracket, D_Bounds_enter_bracket⟩ := cd.def_ 11 rfl
  have b_Bounds_enter_bracket := FunD.bindsN (ps := ["self"]) D_Bounds_enter_bracket fun _ _ _ _ _ _ us hl => match us, hl with | [_], _ => rfl
  obtain ⟨fd_Bounds_leave_bracket, D_Bounds_leave_bracket⟩ := cd.def_ 12 rfl
  have b_Bounds_leave_bracket := FunD.bindsN (ps := ["self"]) D_Bounds_leave_bracket fun _ _ _ _ _ _ us hl => match us, hl with | [_], _ => rfl
  obtain ⟨fd_Bounds_enter_has, D_Bounds_enter_has⟩ := cd.def_ 13 rfl
  have b_Bounds_enter_has := FunD.bindsN (ps := ["self"]) D_Bounds_enter_has fun _ _ _ _ _ _ us hl => match us, hl with | [_], _ => rfl
  obtain ⟨fd_Bounds_leave_has, D_Bounds_leave_has⟩ := cd.def_ 14 rfl
  have b_Bounds_leave_has := FunD.bindsN (ps := ["self"]) D_Bounds_leave_has fun _ _ _ _ _ _ us hl => match us, hl with | [_], _ => rfl
  obtain ⟨fd_is_name, D_is_name⟩ := cd.def_ 15 rfl
  have b_is_name := FunD.bindsN (ps := ["thing"]) D_is_name fun _ _ _ _ _ _ us hl => match us, hl with | [_], _ => rfl
  obtain ⟨fd_are_unlike, D_are_unlike⟩ := cd.def_ 16 rfl
  have b_are_unlike := FunD.bindsN (ps := ["names"]) D_are_unlike fun _ _ _ _ _ _ us hl => match us, hl with | [_], _ => rfl
  obtain ⟨fd_written_number, D_written_number⟩ := cd.def_ 17 rfl
  have b_written_number := FunD.bindsN (ps := ["text", "most"]) D_written_number fun _ _ _ _ _ _ us hl => match us, hl with | [_, _], _ => rfl
  obtain ⟨fd_take_or, D_take_or⟩ := cd.def_ 18 rfl
  have b_take_or := FunD.bindsN (ps := ["reader", "bounds"]) D_take_or fun _ _ _ _ _ _ us hl => match us, hl with | [_, _], _ => rfl
  obtain ⟨fd_take_and, D_take_and⟩ := cd.def_ 19 rfl
  have b_take_and := FunD.bindsN (ps := ["reader", "bounds"]) D_take_and fun _ _ _ _ _ _ us hl => match us, hl with | [_, _], _ => rfl
  obtain ⟨fd_take_alone, D_take_alone⟩ := cd.def_ 20 rfl
  have b_take_alone := FunD.bindsN (ps := ["reader", "bounds"]) D_take_alone fun _ _ _ _ _ _ us hl => match us, hl with | [_, _], _ => rfl
  obtain ⟨fd_take_bracket, D_take_bracket⟩ := cd.def_ 21 rfl
  have b_take_bracket := FunD.bindsN (ps := ["reader", "bounds"]) D_take_bracket fun _ _ _ _ _ _ us hl => match us, hl with | [_, _], _ => rfl
  obtain ⟨fd_take_has, D_take_has⟩ := cd.def_ 22 rfl
  have b_take_has := FunD.bindsN (ps := ["reader", "bounds"]) D_take_has fun _ _ _ _ _ _ us hl => match us, hl with | [_, _], _ => rfl
  obtain ⟨fd_take_about_column, D_take_about_column⟩ := cd.def_ 23 rfl
  have b_take_about_column := FunD.bindsN (ps := ["reader"]) D_take_about_column fun _ _ _ _ _ _ us hl => match us, hl with | [_], _ => rfl
  obtain ⟨fd_take_condition, D_take_condition⟩ := cd.def_ 24 rfl
  have b_take_condition := FunD.bindsN (ps := ["reader"]) D_take_condition fun _ _ _ _ _ _ us hl => match us, hl with | [_], _ => rfl
  obtain ⟨fd_take_ask, D_take_ask⟩ := cd.def_ 25 rfl
  have b_take_ask := FunD.bindsN (ps := ["reader", "bounds"]) D_take_ask fun _ _ _ _ _ _ us hl => match us, hl with | [_, _], _ => rfl
  obtain ⟨fd_take_first, D_take_first⟩ := cd.def_ 26 rfl
  have b_take_first := FunD.bindsN (ps := ["reader", "bounds"]) D_take_first fun _ _ _ _ _ _ us hl => match us, hl with | [_, _], _ => rfl
  obtain ⟨fd_take_step, D_take_step⟩ := cd.def_ 27 rfl
  have b_take_step := FunD.bindsN (ps := ["reader", "ask"]) D_take_step fun _ _ _ _ _ _ us hl => match us, hl with | [_, _], _ => rfl
  obtain ⟨fd_reader_of, D_reader_of⟩ := cd.def_ 28 rfl
  have b_reader_of := FunD.bindsN (ps := ["thing"]) D_reader_of fun _ _ _ _ _ _ us hl => match us, hl with | [_], _ => rfl
  obtain ⟨fd_check_end, D_check_end⟩ := cd.def_ 29 rfl
  have b_check_end := FunD.bindsN (ps := ["reader"]) D_check_end fun _ _ _ _ _ _ us hl => match us, hl with | [_], _ => rfl
  obtain ⟨fd_read_condition, D_read_condition⟩ := cd.def_ 30 rfl
  have b_read_condition := FunD.bindsN (ps := ["thing"]) D_read_condition fun _ _ _ _ _ _ us hl => match us, hl with | [_], _ => rfl
  obtain ⟨fd_read_ask, D_read_ask⟩ := cd.def_ 31 rfl
  have b_read_ask := FunD.bindsN (ps := ["thing"]) D_read_ask fun _ _ _ _ _ _ us hl => match us, hl with | [_], _ => rfl
  obtain ⟨fd_law_cell_at, D_law_cell_at⟩ := cd.def_ 32 rfl
  have b_law_cell_at := FunD.bindsN (ps := ["script", "k"]) D_law_cell_at fun _ _ _ _ _ _ us hl => match us, hl with | [_, _], _ => rfl
  obtain ⟨fd_law_draws, D_law_draws⟩ := cd.def_ 33 rfl
  have b_law_draws := FunD.bindsN (ps := ["cell", "many", "base"]) D_law_draws fun _ _ _ _ _ _ us hl => match us, hl with | [_, _, _], _ => rfl
  obtain ⟨fd_law_name, D_law_name⟩ := cd.def_ 34 rfl
  have b_law_name := FunD.bindsN (ps := ["some", "taken"]) D_law_name fun _ _ _ _ _ _ us hl => match us, hl with | [_, _], _ => rfl
  obtain ⟨fd_law_columns, D_law_columns⟩ := cd.def_ 35 rfl
  have b_law_columns := FunD.bindsN (ps := ["picks", "many", "top"]) D_law_columns fun _ _ _ _ _ _ us hl => match us, hl with | [_, _, _], _ => rfl
  obtain ⟨fd_law_ground, D_law_ground⟩ := cd.def_ 36 rfl
  have b_law_ground := FunD.bindsN (ps := ["picks", "top"]) D_law_ground fun _ _ _ _ _ _ us hl => match us, hl with | [_, _], _ => rfl
  obtain ⟨fd_law_atom, D_law_atom⟩ := cd.def_ 37 rfl
  have b_law_atom := FunD.bindsN (ps := ["picks", "columns", "ways"]) D_law_atom fun _ _ _ _ _ _ us hl => match us, hl with | [_, _, _], _ => rfl
  obtain ⟨fd_law_condition, D_law_condition⟩ := cd.def_ 38 rfl
  have b_law_condition := FunD.bindsN (ps := ["picks", "parts", "ground", "columns", "ways"]) D_law_condition fun _ _ _ _ _ _ us hl => match us, hl with | [_, _, _, _, _], _ => rfl
  obtain ⟨fd_law_new_names, D_law_new_names⟩ := cd.def_ 39 rfl
  have b_law_new_names := FunD.bindsN (ps := ["picks", "many", "taken"]) D_law_new_names fun _ _ _ _ _ _ us hl => match us, hl with | [_, _, _], _ => rfl
  obtain ⟨fd_law_kin, D_law_kin⟩ := cd.def_ 40 rfl
  have b_law_kin := FunD.bindsN (ps := ["e"]) D_law_kin fun _ _ _ _ _ _ us hl => match us, hl with | [_], _ => rfl
  obtain ⟨fd_law_some_columns, D_law_some_columns⟩ := cd.def_ 41 rfl
  have b_law_some_columns := FunD.bindsN (ps := ["picks", "ground"]) D_law_some_columns fun _ _ _ _ _ _ us hl => match us, hl with | [_, _], _ => rfl
  obtain ⟨fd_law_rank, D_law_rank⟩ := cd.def_ 42 rfl
  have b_law_rank := FunD.bindsN (ps := ["told"]) D_law_rank fun _ _ _ _ _ _ us hl => match us, hl with | [_], _ => rfl
  obtain ⟨fd_law_put, D_law_put⟩ := cd.def_ 43 rfl
  have b_law_put := FunD.bindsN (ps := ["told", "least"]) D_law_put fun _ _ _ _ _ _ us hl => match us, hl with | [_, _], _ => rfl
  obtain ⟨fd_law_words, D_law_words⟩ := cd.def_ 44 rfl
  have b_law_words := FunD.bindsN (ps := ["told"]) D_law_words fun _ _ _ _ _ _ us hl => match us, hl with | [_], _ => rfl
  obtain ⟨fd_law_wide, D_law_wide⟩ := cd.def_ 45 rfl
  have b_law_wide := FunD.bindsN (ps := ["told", "picks", "deep"]) D_law_wide fun _ _ _ _ _ _ us hl => match us, hl with | [_, _, _], _ => rfl
  obtain ⟨fd_law_told, D_law_told⟩ := cd.def_ 46 rfl
  have b_law_told := FunD.bindsN (ps := ["text", "way"]) D_law_told fun _ _ _ _ _ _ us hl => match us, hl with | [_, _], _ => rfl
  obtain ⟨fd_law, D_law⟩ := cd.def_ 47 rfl
  have bA_law := FunD.bindsA (ps := ["script"]) D_law fun _ _ _ _ _ _ us hl => match us, hl with | [_], _ => rfl
  have b_law := FunD.bindsN (ps := ["script"]) D_law fun _ _ _ _ _ _ us hl => match us, hl with | [_], _ => rfl
  have hE := c.more
  obtain ⟨hC_MOST_VALUES, hE⟩ := He.ba hE
  obtain ⟨hC_WORDS, hE⟩ := He.ba hE
  obtain ⟨xE, hX⟩ := He.ba hE
  obtain ⟨xR, xS⟩ := He.ba hX
  obtain ⟨t_MOST_PAIRS, m_MOST_PAIRS⟩ := He.int_ok KX G (cd.fact 72 rfl)
  obtain ⟨t_MOST_BRACKETS, m_MOST_BRACKETS⟩ := He.int_ok KX G (cd.fact 73 rfl)
  obtain ⟨t_LONGEST_NAME, m_LONGEST_NAME⟩ := He.int_ok KX G (cd.fact 74 rfl)
  obtain ⟨t_MOST_FIGURES, m_MOST_FIGURES⟩ := He.int_ok KX G (cd.fact 75 rfl)
  obtain ⟨t_MOST_CONDITIONS, m_MOST_CONDITIONS⟩ := He.int_ok KX G (cd.fact 76 rfl)
  obtain ⟨t_MOST_PARTS, m_MOST_PARTS⟩ := He.int_ok KX G (cd.fact 77 rfl)
  obtain ⟨t_LETTERS, m_LETTERS⟩ := He.str_ok KX G (cd.fact 78 rfl)
  obtain ⟨t_FIGURES, m_FIGURES⟩ := He.str_ok KX G (cd.fact 79 rfl)
  obtain ⟨es_MOST_VALUES, nd_MOST_VALUES, kdd_MOST_VALUES⟩ := c.t.tab 0 rfl
  letI : Lz := lawLz K
  exact ⟨{
    n_len := He.free_ok KX G (cd.fact 59 rfl)
    n_all := He.free_ok KX G (cd.fact 60 rfl)
    n_isinstance := He.free_ok KX G (cd.fact 61 rfl)
    n_str := He.free_ok KX G (cd.fact 62 rfl)
    n_set := He.free_ok KX G (cd.fact 63 rfl)
    n_int := He.free_ok KX G (cd.fact 64 rfl)
    n_range := He.free_ok KX G (cd.fact 65 rfl)
    n_tuple := He.free_ok KX G (cd.fact 66 rfl)
    n_min := He.free_ok KX G (cd.fact 67 rfl)
    n_sorted := He.free_ok KX G (cd.fact 68 rfl)
    n_any := He.free_ok KX G (cd.fact 69 rfl)
    n_max := He.free_ok KX G (cd.fact 70 rfl)
    n_ValueError := He.free_ok KX G (cd.fact 71 rfl)
    u_MOST_PAIRS := .int (2) t_MOST_PAIRS
    v_MOST_PAIRS := .int (2)
    mg_MOST_PAIRS := m_MOST_PAIRS
    rl_MOST_PAIRS := ⟨_, rfl⟩
    dp_MOST_PAIRS := fun _ => .int _
    u_MOST_BRACKETS := .int (20) t_MOST_BRACKETS
    v_MOST_BRACKETS := .int (20)
    mg_MOST_BRACKETS := m_MOST_BRACKETS
    rl_MOST_BRACKETS := ⟨_, rfl⟩
    dp_MOST_BRACKETS := fun _ => .int _
    u_LETTERS := .str "abcdefghijklmnopqrstuvwxyz" t_LETTERS
    v_LETTERS := .str "abcdefghijklmnopqrstuvwxyz"
    mg_LETTERS := m_LETTERS
    rl_LETTERS := ⟨_, rfl⟩
    dp_LETTERS := fun _ => .str _
    u_WORDS := .ref (He.ga K "WORDS")
    v_WORDS := .ref (He.ga K "WORDS")
    mg_WORDS := He.glo_ok KX G (cd.fact 81 rfl)
    rl_WORDS := rfl
    dp_WORDS := (cB_ok 9 _ _ hC_WORDS).2
    u_LONGEST_NAME := .int (8) t_LONGEST_NAME
    v_LONGEST_NAME := .int (8)
    mg_LONGEST_NAME := m_LONGEST_NAME
    rl_LONGEST_NAME := ⟨_, rfl⟩
    dp_LONGEST_NAME := fun _ => .int _
    u_FIGURES := .str "0123456789" t_FIGURES
    v_FIGURES := .str "0123456789"
    mg_FIGURES := m_FIGURES
    rl_FIGURES := ⟨_, rfl⟩
    dp_FIGURES := fun _ => .str _
    u_MOST_FIGURES := .int (2) t_MOST_FIGURES
    v_MOST_FIGURES := .int (2)
    mg_MOST_FIGURES := m_MOST_FIGURES
    rl_MOST_FIGURES := ⟨_, rfl⟩
    dp_MOST_FIGURES := fun _ => .int _
    q_MOST_VALUES := He.ga K "MOST_VALUES"
    mg_MOST_VALUES := He.glo_ok KX G (cd.fact 80 rfl)
    kd_MOST_VALUES := ent_ok kdd_MOST_VALUES hC_MOST_VALUES
    u_MOST_CONDITIONS := .int (8) t_MOST_CONDITIONS
    v_MOST_CONDITIONS := .int (8)
    mg_MOST_CONDITIONS := m_MOST_CONDITIONS
    rl_MOST_CONDITIONS := ⟨_, rfl⟩
    dp_MOST_CONDITIONS := fun _ => .int _
    u_MOST_PARTS := .int (8) t_MOST_PARTS
    v_MOST_PARTS := .int (8)
    mg_MOST_PARTS := m_MOST_PARTS
    rl_MOST_PARTS := ⟨_, rfl⟩
    dp_MOST_PARTS := fun _ => .int _
    fk_ := fun _ _ => rfl
    mg_Reader := He.glo_ok KX G (cd.fact 0 rfl)
    cl_Reader := He.cls_ok (cd.fact 1 rfl)
    na_Reader_words := He.noat_ok (cd.fact 3 rfl)
    na_Reader_place := He.noat_ok (cd.fact 4 rfl)
    mg_Bounds := He.glo_ok KX G (cd.fact 5 rfl)
    cl_Bounds := He.cls_ok (cd.fact 6 rfl)
    na_Bounds_most := He.noat_ok (cd.fact 8 rfl)
    na_Bounds_parts := He.noat_ok (cd.fact 9 rfl)
    na_Bounds_pairs := He.noat_ok (cd.fact 10 rfl)
    na_Bounds_brackets := He.noat_ok (cd.fact 11 rfl)
    na_Bounds_within_has := He.noat_ok (cd.fact 12 rfl)
    f_Reader___init := He.ma K (He.ga K "Reader") "__init__"
    fd_Reader___init := fd_Reader___init
    F_Reader___init := He5.fun_of D_Reader___init
    b_Reader___init := b_Reader___init
    mk_Reader := He.mkr_ok (cd.fact 2 rfl)
    f_Reader_ahead := He.ma K (He.ga K "Reader") "ahead"
    fd_Reader_ahead := fd_Reader_ahead
    F_Reader_ahead := He5.fun_of D_Reader_ahead
    b_Reader_ahead := b_Reader_ahead
    me_Reader_ahead := He.meth_ok (cd.fact 13 rfl)
    f_Reader_take := He.ma K (He.ga K "Reader") "take"
    fd_Reader_take := fd_Reader_take
    F_Reader_take := He5.fun_of D_Reader_take
    b_Reader_take := b_Reader_take
    me_Reader_take := He.meth_ok (cd.fact 14 rfl)
    f_Reader_takes := He.ma K (He.ga K "Reader") "takes"
    fd_Reader_takes := fd_Reader_takes
    F_Reader_takes := He5.fun_of D_Reader_takes
    b_Reader_takes := b_Reader_takes
    me_Reader_takes := He.meth_ok (cd.fact 15 rfl)
    f_Reader_take_this := He.ma K (He.ga K "Reader") "take_this"
    fd_Reader_take_this := fd_Reader_take_this
    F_Reader_take_this := He5.fun_of D_Reader_take_this
    b_Reader_take_this := b_Reader_take_this
    me_Reader_take_this := He.meth_ok (cd.fact 16 rfl)
    f_Reader_take_name := He.ma K (He.ga K "Reader") "take_name"
    fd_Reader_take_name := fd_Reader_take_name
    F_Reader_take_name := He5.fun_of D_Reader_take_name
    b_Reader_take_name := b_Reader_take_name
    me_Reader_take_name := He.meth_ok (cd.fact 17 rfl)
    f_Reader_take_number := He.ma K (He.ga K "Reader") "take_number"
    fd_Reader_take_number := fd_Reader_take_number
    F_Reader_take_number := He5.fun_of D_Reader_take_number
    b_Reader_take_number := b_Reader_take_number
    me_Reader_take_number := He.meth_ok (cd.fact 18 rfl)
    f_Reader_take_names := He.ma K (He.ga K "Reader") "take_names"
    fd_Reader_take_names := fd_Reader_take_names
    F_Reader_take_names := He5.fun_of D_Reader_take_names
    b_Reader_take_names := b_Reader_take_names
    me_Reader_take_names := He.meth_ok (cd.fact 19 rfl)
    f_Bounds___init := He.ma K (He.ga K "Bounds") "__init__"
    fd_Bounds___init := fd_Bounds___init
    F_Bounds___init := He5.fun_of D_Bounds___init
    b_Bounds___init := b_Bounds___init
    mk_Bounds := He.mkr_ok (cd.fact 7 rfl)
    f_Bounds_count_part := He.ma K (He.ga K "Bounds") "count_part"
    fd_Bounds_count_part := fd_Bounds_count_part
    F_Bounds_count_part := He5.fun_of D_Bounds_count_part
    b_Bounds_count_part := b_Bounds_count_part
    me_Bounds_count_part := He.meth_ok (cd.fact 20 rfl)
    f_Bounds_count_pair := He.ma K (He.ga K "Bounds") "count_pair"
    fd_Bounds_count_pair := fd_Bounds_count_pair
    F_Bounds_count_pair := He5.fun_of D_Bounds_count_pair
    b_Bounds_count_pair := b_Bounds_count_pair
    me_Bounds_count_pair := He.meth_ok (cd.fact 21 rfl)
    f_Bounds_enter_bracket := He.ma K (He.ga K "Bounds") "enter_bracket"
    fd_Bounds_enter_bracket := fd_Bounds_enter_bracket
    F_Bounds_enter_bracket := He5.fun_of D_Bounds_enter_bracket
    b_Bounds_enter_bracket := b_Bounds_enter_bracket
    me_Bounds_enter_bracket := He.meth_ok (cd.fact 22 rfl)
    f_Bounds_leave_bracket := He.ma K (He.ga K "Bounds") "leave_bracket"
    fd_Bounds_leave_bracket := fd_Bounds_leave_bracket
    F_Bounds_leave_bracket := He5.fun_of D_Bounds_leave_bracket
    b_Bounds_leave_bracket := b_Bounds_leave_bracket
    me_Bounds_leave_bracket := He.meth_ok (cd.fact 23 rfl)
    f_Bounds_enter_has := He.ma K (He.ga K "Bounds") "enter_has"
    fd_Bounds_enter_has := fd_Bounds_enter_has
    F_Bounds_enter_has := He5.fun_of D_Bounds_enter_has
    b_Bounds_enter_has := b_Bounds_enter_has
    me_Bounds_enter_has := He.meth_ok (cd.fact 24 rfl)
    f_Bounds_leave_has := He.ma K (He.ga K "Bounds") "leave_has"
    fd_Bounds_leave_has := fd_Bounds_leave_has
    F_Bounds_leave_has := He5.fun_of D_Bounds_leave_has
    b_Bounds_leave_has := b_Bounds_leave_has
    me_Bounds_leave_has := He.meth_ok (cd.fact 25 rfl)
    f_is_name := He.ga K "is_name"
    fd_is_name := fd_is_name
    F_is_name := He5.fun_of D_is_name
    b_is_name := b_is_name
    g_is_name := He.glo_ok KX G (cd.fact 26 rfl)
    k_is_name := D_is_name.kp
    f_are_unlike := He.ga K "are_unlike"
    fd_are_unlike := fd_are_unlike
    F_are_unlike := He5.fun_of D_are_unlike
    b_are_unlike := b_are_unlike
    g_are_unlike := He.glo_ok KX G (cd.fact 27 rfl)
    k_are_unlike := D_are_unlike.kp
    f_written_number := He.ga K "written_number"
    fd_written_number := fd_written_number
    F_written_number := He5.fun_of D_written_number
    b_written_number := b_written_number
    g_written_number := He.glo_ok KX G (cd.fact 28 rfl)
    k_written_number := D_written_number.kp
    f_take_or := He.ga K "take_or"
    fd_take_or := fd_take_or
    F_take_or := He5.fun_of D_take_or
    b_take_or := b_take_or
    g_take_or := He.glo_ok KX G (cd.fact 29 rfl)
    k_take_or := D_take_or.kp
    f_take_and := He.ga K "take_and"
    fd_take_and := fd_take_and
    F_take_and := He5.fun_of D_take_and
    b_take_and := b_take_and
    g_take_and := He.glo_ok KX G (cd.fact 30 rfl)
    k_take_and := D_take_and.kp
    f_take_alone := He.ga K "take_alone"
    fd_take_alone := fd_take_alone
    F_take_alone := He5.fun_of D_take_alone
    b_take_alone := b_take_alone
    g_take_alone := He.glo_ok KX G (cd.fact 31 rfl)
    k_take_alone := D_take_alone.kp
    f_take_bracket := He.ga K "take_bracket"
    fd_take_bracket := fd_take_bracket
    F_take_bracket := He5.fun_of D_take_bracket
    b_take_bracket := b_take_bracket
    g_take_bracket := He.glo_ok KX G (cd.fact 32 rfl)
    k_take_bracket := D_take_bracket.kp
    f_take_has := He.ga K "take_has"
    fd_take_has := fd_take_has
    F_take_has := He5.fun_of D_take_has
    b_take_has := b_take_has
    g_take_has := He.glo_ok KX G (cd.fact 33 rfl)
    k_take_has := D_take_has.kp
    f_take_about_column := He.ga K "take_about_column"
    fd_take_about_column := fd_take_about_column
    F_take_about_column := He5.fun_of D_take_about_column
    b_take_about_column := b_take_about_column
    g_take_about_column := He.glo_ok KX G (cd.fact 34 rfl)
    k_take_about_column := D_take_about_column.kp
    f_take_condition := He.ga K "take_condition"
    fd_take_condition := fd_take_condition
    F_take_condition := He5.fun_of D_take_condition
    b_take_condition := b_take_condition
    g_take_condition := He.glo_ok KX G (cd.fact 35 rfl)
    k_take_condition := D_take_condition.kp
    f_take_ask := He.ga K "take_ask"
    fd_take_ask := fd_take_ask
    F_take_ask := He5.fun_of D_take_ask
    b_take_ask := b_take_ask
    g_take_ask := He.glo_ok KX G (cd.fact 36 rfl)
    k_take_ask := D_take_ask.kp
    f_take_first := He.ga K "take_first"
    fd_take_first := fd_take_first
    F_take_first := He5.fun_of D_take_first
    b_take_first := b_take_first
    g_take_first := He.glo_ok KX G (cd.fact 37 rfl)
    k_take_first := D_take_first.kp
    f_take_step := He.ga K "take_step"
    fd_take_step := fd_take_step
    F_take_step := He5.fun_of D_take_step
    b_take_step := b_take_step
    g_take_step := He.glo_ok KX G (cd.fact 38 rfl)
    k_take_step := D_take_step.kp
    f_reader_of := He.ga K "reader_of"
    fd_reader_of := fd_reader_of
    F_reader_of := He5.fun_of D_reader_of
    b_reader_of := b_reader_of
    g_reader_of := He.glo_ok KX G (cd.fact 39 rfl)
    k_reader_of := D_reader_of.kp
    f_check_end := He.ga K "check_end"
    fd_check_end := fd_check_end
    F_check_end := He5.fun_of D_check_end
    b_check_end := b_check_end
    g_check_end := He.glo_ok KX G (cd.fact 40 rfl)
    k_check_end := D_check_end.kp
    f_read_condition := He.ga K "read_condition"
    fd_read_condition := fd_read_condition
    F_read_condition := He5.fun_of D_read_condition
    b_read_condition := b_read_condition
    g_read_condition := He.glo_ok KX G (cd.fact 41 rfl)
    k_read_condition := D_read_condition.kp
    f_read_ask := He.ga K "read_ask"
    fd_read_ask := fd_read_ask
    F_read_ask := He5.fun_of D_read_ask
    b_read_ask := b_read_ask
    g_read_ask := He.glo_ok KX G (cd.fact 42 rfl)
    k_read_ask := D_read_ask.kp
    f_law_cell_at := He.ga K "_law_cell_at"
    fd_law_cell_at := fd_law_cell_at
    F_law_cell_at := He5.fun_of D_law_cell_at
    b_law_cell_at := b_law_cell_at
    g_law_cell_at := He.glo_ok KX G (cd.fact 43 rfl)
    k_law_cell_at := D_law_cell_at.kp
    f_law_draws := He.ga K "_law_draws"
    fd_law_draws := fd_law_draws
    F_law_draws := He5.fun_of D_law_draws
    b_law_draws := b_law_draws
    g_law_draws := He.glo_ok KX G (cd.fact 44 rfl)
    k_law_draws := D_law_draws.kp
    f_law_name := He.ga K "_law_name"
    fd_law_name := fd_law_name
    F_law_name := He5.fun_of D_law_name
    b_law_name := b_law_name
    g_law_name := He.glo_ok KX G (cd.fact 45 rfl)
    k_law_name := D_law_name.kp
    f_law_columns := He.ga K "_law_columns"
    fd_law_columns := fd_law_columns
    F_law_columns := He5.fun_of D_law_columns
    b_law_columns := b_law_columns
    g_law_columns := He.glo_ok KX G (cd.fact 46 rfl)
    k_law_columns := D_law_columns.kp
    f_law_ground := He.ga K "_law_ground"
    fd_law_ground := fd_law_ground
    F_law_ground := He5.fun_of D_law_ground
    b_law_ground := b_law_ground
    g_law_ground := He.glo_ok KX G (cd.fact 47 rfl)
    k_law_ground := D_law_ground.kp
    f_law_atom := He.ga K "_law_atom"
    fd_law_atom := fd_law_atom
    F_law_atom := He5.fun_of D_law_atom
    b_law_atom := b_law_atom
    g_law_atom := He.glo_ok KX G (cd.fact 48 rfl)
    k_law_atom := D_law_atom.kp
    f_law_condition := He.ga K "_law_condition"
    fd_law_condition := fd_law_condition
    F_law_condition := He5.fun_of D_law_condition
    b_law_condition := b_law_condition
    g_law_condition := He.glo_ok KX G (cd.fact 49 rfl)
    k_law_condition := D_law_condition.kp
    f_law_new_names := He.ga K "_law_new_names"
    fd_law_new_names := fd_law_new_names
    F_law_new_names := He5.fun_of D_law_new_names
    b_law_new_names := b_law_new_names
    g_law_new_names := He.glo_ok KX G (cd.fact 50 rfl)
    k_law_new_names := D_law_new_names.kp
    f_law_kin := He.ga K "_law_kin"
    fd_law_kin := fd_law_kin
    F_law_kin := He5.fun_of D_law_kin
    b_law_kin := b_law_kin
    g_law_kin := He.glo_ok KX G (cd.fact 51 rfl)
    k_law_kin := D_law_kin.kp
    f_law_some_columns := He.ga K "_law_some_columns"
    fd_law_some_columns := fd_law_some_columns
    F_law_some_columns := He5.fun_of D_law_some_columns
    b_law_some_columns := b_law_some_columns
    g_law_some_columns := He.glo_ok KX G (cd.fact 52 rfl)
    k_law_some_columns := D_law_some_columns.kp
    f_law_rank := He.ga K "_law_rank"
    fd_law_rank := fd_law_rank
    F_law_rank := He5.fun_of D_law_rank
    b_law_rank := b_law_rank
    g_law_rank := He.glo_ok KX G (cd.fact 53 rfl)
    k_law_rank := D_law_rank.kp
    f_law_put := He.ga K "_law_put"
    fd_law_put := fd_law_put
    F_law_put := He5.fun_of D_law_put
    b_law_put := b_law_put
    g_law_put := He.glo_ok KX G (cd.fact 54 rfl)
    k_law_put := D_law_put.kp
    f_law_words := He.ga K "_law_words"
    fd_law_words := fd_law_words
    F_law_words := He5.fun_of D_law_words
    b_law_words := b_law_words
    g_law_words := He.glo_ok KX G (cd.fact 55 rfl)
    k_law_words := D_law_words.kp
    f_law_wide := He.ga K "_law_wide"
    fd_law_wide := fd_law_wide
    F_law_wide := He5.fun_of D_law_wide
    b_law_wide := b_law_wide
    g_law_wide := He.glo_ok KX G (cd.fact 56 rfl)
    k_law_wide := D_law_wide.kp
    f_law_told := He.ga K "_law_told"
    fd_law_told := fd_law_told
    F_law_told := He5.fun_of D_law_told
    b_law_told := b_law_told
    g_law_told := He.glo_ok KX G (cd.fact 57 rfl)
    k_law_told := D_law_told.kp
    f_law := He.ga K "law"
    fd_law := fd_law
    F_law := He5.fun_of D_law
    b_law := b_law
    g_law := He.glo_ok KX G (cd.fact 58 rfl)
    k_law := D_law.kp
    C_TooMany := He.ga K "TooMany"
    mgc_TooMany := He.glo_ok KX G (cd.fact 82 rfl)
    ec_TooMany := errB_ok (List.all_eq_true.mp xE erL[0] (List.getElem_mem _))
    C_NoAsk := He.ga K "NoAsk"
    mgc_NoAsk := He.glo_ok KX G (cd.fact 83 rfl)
    ec_NoAsk := errB_ok (List.all_eq_true.mp xE erL[1] (List.getElem_mem _))
    C_NoRight := He.ga K "NoRight"
    mgc_NoRight := He.glo_ok KX G (cd.fact 84 rfl)
    ec_NoRight := errB_ok (List.all_eq_true.mp xE erL[2] (List.getElem_mem _))
    C_NoRow := He.ga K "NoRow"
    mgc_NoRow := He.glo_ok KX G (cd.fact 85 rfl)
    ec_NoRow := errB_ok (List.all_eq_true.mp xE erL[3] (List.getElem_mem _))
    C_NotLet := He.ga K "NotLet"
    mgc_NotLet := He.glo_ok KX G (cd.fact 86 rfl)
    ec_NotLet := errB_ok (List.all_eq_true.mp xE erL[4] (List.getElem_mem _))
    C_Taken := He.ga K "Taken"
    mgc_Taken := He.glo_ok KX G (cd.fact 87 rfl)
    ec_Taken := errB_ok (List.all_eq_true.mp xE erL[5] (List.getElem_mem _))
    C_Full := He.ga K "Full"
    mgc_Full := He.glo_ok KX G (cd.fact 88 rfl)
    ec_Full := errB_ok (List.all_eq_true.mp xE erL[6] (List.getElem_mem _))
    C_NoCondition := He.ga K "NoCondition"
    mgc_NoCondition := He.glo_ok KX G (cd.fact 89 rfl)
    ec_NoCondition := errB_ok (List.all_eq_true.mp xE erL[7] (List.getElem_mem _))
    C_NoGround := He.ga K "NoGround"
    mgc_NoGround := He.glo_ok KX G (cd.fact 90 rfl)
    ec_NoGround := errB_ok (List.all_eq_true.mp xE erL[8] (List.getElem_mem _))
    C_NoRule := He.ga K "NoRule"
    mgc_NoRule := He.glo_ok KX G (cd.fact 91 rfl)
    ec_NoRule := errB_ok (List.all_eq_true.mp xE erL[9] (List.getElem_mem _))
    C_Twice := He.ga K "Twice"
    mgc_Twice := He.glo_ok KX G (cd.fact 92 rfl)
    ec_Twice := errB_ok (List.all_eq_true.mp xE erL[10] (List.getElem_mem _))
    C_NotThere := He.ga K "NotThere"
    mgc_NotThere := He.glo_ok KX G (cd.fact 93 rfl)
    ec_NotThere := errB_ok (List.all_eq_true.mp xE erL[11] (List.getElem_mem _))
    C_NoView := He.ga K "NoView"
    mgc_NoView := He.glo_ok KX G (cd.fact 94 rfl)
    ec_NoView := errB_ok (List.all_eq_true.mp xE erL[12] (List.getElem_mem _))
    C_InUse := He.ga K "InUse"
    mgc_InUse := He.glo_ok KX G (cd.fact 95 rfl)
    ec_InUse := errB_ok (List.all_eq_true.mp xE erL[13] (List.getElem_mem _))
    C_NoTable := He.ga K "NoTable"
    mgc_NoTable := He.glo_ok KX G (cd.fact 96 rfl)
    ec_NoTable := errB_ok (List.all_eq_true.mp xE erL[14] (List.getElem_mem _))
    C_NoUser := He.ga K "NoUser"
    mgc_NoUser := He.glo_ok KX G (cd.fact 97 rfl)
    ec_NoUser := errB_ok (List.all_eq_true.mp xE erL[15] (List.getElem_mem _))
    C_NoneOpen := He.ga K "NoneOpen"
    mgc_NoneOpen := He.glo_ok KX G (cd.fact 98 rfl)
    ec_NoneOpen := errB_ok (List.all_eq_true.mp xE erL[16] (List.getElem_mem _))
    C_TooDeep := He.ga K "TooDeep"
    mgc_TooDeep := He.glo_ok KX G (cd.fact 99 rfl)
    ec_TooDeep := errB_ok (List.all_eq_true.mp xE erL[17] (List.getElem_mem _))
    C_NoDeeds := He.ga K "NoDeeds"
    mgc_NoDeeds := He.glo_ok KX G (cd.fact 100 rfl)
    ec_NoDeeds := errB_ok (List.all_eq_true.mp xE erL[18] (List.getElem_mem _))
    C_NoText := He.ga K "NoText"
    mgc_NoText := He.glo_ok KX G (cd.fact 101 rfl)
    ec_NoText := errB_ok (List.all_eq_true.mp xE erL[19] (List.getElem_mem _))
    C_NoLine := He.ga K "NoLine"
    mgc_NoLine := He.glo_ok KX G (cd.fact 102 rfl)
    ec_NoLine := errB_ok (List.all_eq_true.mp xE erL[20] (List.getElem_mem _))
    C_VeilError := He.ga K "VeilError"
    mgc_VeilError := He.glo_ok KX G (cd.fact 103 rfl)
    ec_VeilError := errB_ok (List.all_eq_true.mp xE erL[21] (List.getElem_mem _))
    er_NoText := raiB_ok (List.all_eq_true.mp xR raL[0] (List.getElem_mem _))
    bv_VeilError := subB_ok (List.all_eq_true.mp xS suL[0] (List.getElem_mem _))
    sub_NoText_TooMany := subB_ok (List.all_eq_true.mp xS suL[1] (List.getElem_mem _))
    sub_NoText_NoAsk := subB_ok (List.all_eq_true.mp xS suL[2] (List.getElem_mem _))
    sub_NoText_NoRight := subB_ok (List.all_eq_true.mp xS suL[3] (List.getElem_mem _))
    sub_NoText_NoRow := subB_ok (List.all_eq_true.mp xS suL[4] (List.getElem_mem _))
    sub_NoText_NotLet := subB_ok (List.all_eq_true.mp xS suL[5] (List.getElem_mem _))
    sub_NoText_Taken := subB_ok (List.all_eq_true.mp xS suL[6] (List.getElem_mem _))
    sub_NoText_Full := subB_ok (List.all_eq_true.mp xS suL[7] (List.getElem_mem _))
    sub_NoText_NoCondition := subB_ok (List.all_eq_true.mp xS suL[8] (List.getElem_mem _))
    sub_NoText_NoGround := subB_ok (List.all_eq_true.mp xS suL[9] (List.getElem_mem _))
    sub_NoText_NoRule := subB_ok (List.all_eq_true.mp xS suL[10] (List.getElem_mem _))
    sub_NoText_Twice := subB_ok (List.all_eq_true.mp xS suL[11] (List.getElem_mem _))
    sub_NoText_NotThere := subB_ok (List.all_eq_true.mp xS suL[12] (List.getElem_mem _))
    sub_NoText_NoView := subB_ok (List.all_eq_true.mp xS suL[13] (List.getElem_mem _))
    sub_NoText_InUse := subB_ok (List.all_eq_true.mp xS suL[14] (List.getElem_mem _))
    sub_NoText_NoTable := subB_ok (List.all_eq_true.mp xS suL[15] (List.getElem_mem _))
    sub_NoText_NoUser := subB_ok (List.all_eq_true.mp xS suL[16] (List.getElem_mem _))
    sub_NoText_NoneOpen := subB_ok (List.all_eq_true.mp xS suL[17] (List.getElem_mem _))
    sub_NoText_TooDeep := subB_ok (List.all_eq_true.mp xS suL[18] (List.getElem_mem _))
    sub_NoText_NoDeeds := subB_ok (List.all_eq_true.mp xS suL[19] (List.getElem_mem _))
    sub_NoText_NoText := subB_ok (List.all_eq_true.mp xS suL[20] (List.getElem_mem _))
    sub_NoText_NoLine := subB_ok (List.all_eq_true.mp xS suL[21] (List.getElem_mem _))
    sub_NoText_VeilError := subB_ok (List.all_eq_true.mp xS suL[22] (List.getElem_mem _))
    sub_NoText_ValueError := subB_ok (List.all_eq_true.mp xS suL[23] (List.getElem_mem _)) }, rfl, fun s v => bA_law s [v] rfl⟩
end Rv
namespace Rv
open PySem L2 PySem.Spec PyProof.Rows
set_option maxHeartbeats 0 in
theorem law_ok {P : Program} {w : World} {K : PySem.W.Frag} {mg : Str → Option Value} {base : Heap} (T : @Txt (lawLz K) K mg w) : FnOk P w K mg base CX0 167 (@Txt.f_law (lawLz K) K mg w T) (@Txt.fd_law (lawLz K) K mg w T) ["script"] (spLaw K (@JJ (lawLz K))) := by
  letI : Lz := lawLz K
  have G_Reader___init := ok_Reader___init (P := P) (w := w) (base := base) T 
  have G_Reader_ahead := ok_Reader_ahead (P := P) (w := w) (base := base) T 
  have G_Reader_take := ok_Reader_take (P := P) (w := w) (base := base) T G_Reader_ahead
  have G_Reader_takes := ok_Reader_takes (P := P) (w := w) (base := base) T G_Reader_ahead
  have G_Reader_take_this := ok_Reader_take_this (P := P) (w := w) (base := base) T G_Reader_takes
  have G_is_name := ok_is_name (P := P) (w := w) (base := base) T 
  have G_Reader_take_name := ok_Reader_take_name (P := P) (w := w) (base := base) T G_is_name G_Reader_take
  have G_written_number := ok_written_number (P := P) (w := w) (base := base) T 
  have G_Reader_take_number := ok_Reader_take_number (P := P) (w := w) (base := base) T G_written_number G_Reader_take
  have G_Reader_take_names := ok_Reader_take_names (P := P) (w := w) (base := base) T 
  have G_Bounds___init := ok_Bounds___init (P := P) (w := w) (base := base) T 
  have G_Bounds_count_part := ok_Bounds_count_part (P := P) (w := w) (base := base) T 
  have G_Bounds_count_pair := ok_Bounds_count_pair (P := P) (w := w) (base := base) T 
  have G_Bounds_enter_bracket := ok_Bounds_enter_bracket (P := P) (w := w) (base := base) T 
  have G_Bounds_leave_bracket := ok_Bounds_leave_bracket (P := P) (w := w) (base := base) T 
  have G_Bounds_enter_has := ok_Bounds_enter_has (P := P) (w := w) (base := base) T 
  have G_Bounds_leave_has := ok_Bounds_leave_has (P := P) (w := w) (base := base) T 
  have G_are_unlike := ok_are_unlike (P := P) (w := w) (base := base) T 
  have G_take_about_column := ok_take_about_column (P := P) (w := w) (base := base) T G_Reader_take_number G_is_name G_Reader_ahead G_Reader_take_name G_Reader_take
  have G_take_alone := ok_take_alone (P := P) (w := w) (base := base) T G_Reader_takes G_Bounds_count_part G_Bounds_leave_bracket G_Reader_take_this G_Bounds_enter_bracket G_Bounds_leave_has G_Reader_take_name G_Bounds_enter_has G_take_about_column 30
  have G_take_and := ok_take_and (P := P) (w := w) (base := base) T G_Reader_takes G_Bounds_count_part (n := 30) G_take_alone 
  have G_take_or := ok_take_or (P := P) (w := w) (base := base) T G_Reader_takes G_Bounds_count_part (n := 30) G_take_alone G_take_and
  have G_take_bracket := ok_take_bracket (P := P) (w := w) (base := base) T G_Bounds_leave_bracket G_Reader_take_this G_Bounds_enter_bracket (n := 30) G_take_alone G_take_or
  have G_take_has := ok_take_has (P := P) (w := w) (base := base) T G_Bounds_leave_has G_Reader_take_this G_Reader_take_name G_Bounds_enter_has (n := 30) G_take_alone G_take_or
  have G_take_condition := ok_take_condition (P := P) (w := w) (base := base) T G_take_or G_Bounds___init
  have G_take_step := ok_take_step (P := P) (w := w) (base := base) T G_Reader_take_name G_Reader_take_names G_take_condition G_Reader_take
  have G_take_ask := ok_take_ask (P := P) (w := w) (base := base) T G_Reader_take_this G_Bounds_count_pair G_Reader_take G_Reader_take_name G_Bounds_count_part G_Reader_takes G_take_step 2
  have G_reader_of := ok_reader_of (P := P) (w := w) (base := base) T G_Reader___init
  have G_check_end := ok_check_end (P := P) (w := w) (base := base) T G_Reader_ahead
  have G_read_condition := ok_read_condition (P := P) (w := w) (base := base) T G_check_end G_take_condition G_reader_of
  have G_read_ask := ok_read_ask (P := P) (w := w) (base := base) T G_check_end G_take_ask G_Bounds___init G_reader_of
  have G_law_cell_at := ok_law_cell_at (P := P) (w := w) (base := base) T 
  have G_law_draws := ok_law_draws (P := P) (w := w) (base := base) T 
  have G_law_name := ok_law_name (P := P) (w := w) (base := base) T 
  have G_law_columns := ok_law_columns (P := P) (w := w) (base := base) T G_law_name
  have G_law_ground := ok_law_ground (P := P) (w := w) (base := base) T G_law_name G_law_columns
  have G_law_atom := ok_law_atom (P := P) (w := w) (base := base) T 
  have G_law_condition := ok_law_condition (P := P) (w := w) (base := base) T G_law_atom 10
  have G_law_new_names := ok_law_new_names (P := P) (w := w) (base := base) T G_law_name
  have G_law_some_columns := ok_law_some_columns (P := P) (w := w) (base := base) T G_law_new_names
  have G_law_rank := ok_law_rank (P := P) (w := w) (base := base) T 
  have G_law_words := ok_law_words (P := P) (w := w) (base := base) T G_law_rank 10
  have G_law_wide := ok_law_wide (P := P) (w := w) (base := base) T G_law_words 10
  have G_law_told := ok_law_told (P := P) (w := w) (base := base) T G_read_condition G_read_ask
  have G_law := ok_law (P := P) (w := w) (base := base) T G_law_cell_at G_law_told G_law_wide G_law_condition G_law_some_columns G_law_ground G_law_draws
  exact law_end G_law law_true
end Rv
open PyProof.Rows PySem PySem.Calls PySem.W
set_option maxHeartbeats 0 in
theorem PySem.Challenge.cw_rowveil_k64_brackets_that_are_not_needed_holds : PySem.Challenge.rw_rowveil_k64_brackets_that_are_not_needed.Holds := by
  w_on; o_law
  refine HandSHeadRun.head_any (r := OpenLaw.row PySem.Challenge.rw_rowveil_k64_brackets_that_are_not_needed) (q := view (OpenLaw.row PySem.Challenge.rw_rowveil_k64_brackets_that_are_not_needed).prog [70]) (H := Rv.lawHk) (ob := Rv.lawOb) (M := 10000) (loose := Rv.loL) (d := HandSHeadRun.topDef (OpenLaw.row PySem.Challenge.rw_rowveil_k64_brackets_that_are_not_needed).prog 70) (kwd := []) Rv.lawOb_eq
    (by kernel_rfl) (fun s => by kernel_rfl) Rv.lawRun (by kernel_rfl) (by kernel_rfl) (by kernel_rfl) (by rfl) (by first | assumption | decide +kernel) (by decide +kernel) ⟨rfl, rfl, rfl, rfl, rfl, by decide +kernel⟩ ?hw ?hc
  case hw => w_witness2
  case hc =>
    refine LamX.walk_ofTsE (l := PySem.Challenge.rw_rowveil_k64_brackets_that_are_not_needed) (n := 63) (k := 167) (x := "script") (CX := fun _ => L2.CX0) rfl (by decide) (by kernel_rfl) ⟨rfl, by decide, by decide⟩ ?F (fun _ _ _ _ _ z => z)
    intro w mg fa h Y G hmg0
    obtain ⟨K, KX, c⟩ := Y
    obtain ⟨T, hT, hbL⟩ := Rv.txt_of KX G c
    have atL : mg ("law" : PySem.Str) = some (.ref fa) := by
      have e : (HandSHeadRun.topDef (OpenLaw.row PySem.Challenge.rw_rowveil_k64_brackets_that_are_not_needed).prog 70).name = ("law" : PySem.Str) := by kernel_rfl
      rw [← e]
      exact hmg0
    have ef : fa = @Rv.Txt.f_law (Rv.lawLz K) _ _ _ T := Value.ref.inj (Option.some.inj (atL.symm.trans (@Rv.Txt.g_law (Rv.lawLz K) _ _ _ T)))
    subst ef
    exact ⟨K, KX, @Rv.Txt.fd_law (Rv.lawLz K) _ _ _ T, [], Rv.spLaw K (@Rv.JJ (Rv.lawLz K)), fun p hp => absurd hp List.not_mem_nil, fun p hp => absurd hp List.not_mem_nil, fun p hp => absurd hp List.not_mem_nil, hbL, fun H a ns hl _ hH hS => ⟨a, ns, rfl, Rv.jj0 K H, hS, hl, fun _ => rfl⟩, fun base KB GB TB => Rv.law_ok T⟩
