import PyProof.Rows.All
import Wide.All
import OpenK.AllK
import Wide.FinOn
import HandS.ForMost
import HandS.IsInst
import HandS.OwnEq
import HandS.ClsMeth
import HandS.HeadNt
import HandS.Head0
import HandS.Head1
import HandS.Head2
import HandS.HeadEnd
import HandS.HeadHook1
import HandS.HeadHook2
import HandS.ExcInit
import PySem.Challenge.RW_asneverbegun_k05_worlds_known_by_hand
import HandS.Star
import HandS.Wide
import HandS.Style
import HandS.Text
import HandS.Flow
import HandS.Zip
import HandS.Defaults
import HandS.WordsExc
import HandS.MakeKw
import HandS.Dict
import HandS.Deep
import HandS.Steps
import HandS.Iter
import KE.GoesMore
import HandS.FStr
import HandS.MakeKwOnly
import KE.KRevSl
import HandS.Words
import HandS.Ends
import KE.KDictPairs
import HandS.More
import HandS.RaiseMore
import HandS.SortInts
import HandS.SetKeys
import HandS.Strs
import KE.KSortTupG
import KE.KDictZip
import KE.KCallOwn
import HandS.DictComp
import HandS.TryOnly
import HandS.CallLocal
import HandS.TupSets
import HandS.WideBits
import HandS.StrMore
set_option Elab.async false
set_option linter.all false
set_option maxRecDepth 100000
set_option maxHeartbeats 4000000
namespace Sm
open PySem PySem.Spec PyProof.Rows L2
inductive AV where
  | non | bl (b : Bool) | int (i : Int) | str (s : Str) | tup (xs : List AV) | obj (n : Nat) | glo (x : Str) | ty (t : String) | fl (xs : List Int)
def flatA : AV → Option V
  | .non => some .non
  | .bl b => some (.bl b)
  | .int i => some (.int i)
  | .str s => some (.str s)
  | _ => none
def flatAll : List AV → Option (List V)
  | [] => some []
  | x :: r => match flatA x, flatAll r with
    | some v, some vs => some (v :: vs)
    | _, _ => none
inductive Tg where
  | bi (s : String) | own (c : Str)
deriving DecidableEq
abbrev ITab := List (Tg × Tg × Bool)
def tagIn (cs : List Str) : Tg → Bool
  | .bi _ => true
  | .own c => decide (c ∈ cs)
def topTup (K : PySem.W.Frag) (x : Str) (xs : List AV) : Bool := match flatAll xs, K.lookup (He.ga K x) with
  | some vs, some ⟨.type c, none, .seq its _, _⟩ => decide (c = "tuple") && (decide (its.size ≤ sizeLine) && He.relAll vs its.toList)
  | _, _ => false
def tgv (K : PySem.W.Frag) : Tg → Value
  | .bi s => .type s
  | .own c => .ref (He.ga K c)
def tabB (K : PySem.W.Frag) (cs : List Str) (tb : ITab) : Bool := tb.all fun e => tagIn cs e.1 && (tagIn cs e.2.1 && decide (PySem.W.kitOne K (tgv K e.1) (tgv K e.2.1) = some e.2.2))
def insB (K : PySem.W.Frag) (cs : List Str) : Bool := cs.all fun c => (He.Fa.cls c).ok K && (He.eqO (PySem.W.findIn K (.ref (He.ga K c)) "__class__") (some (some (.builtin "object.__class__"))) && (He.eqO (PySem.W.specialIn K (.builtin "object.__class__") "__get__") (some (some (.builtin "getset_descriptor.__get__"))) &&
  (decide (PySem.W.takesIn K (.builtin "object.__class__") = some true) && decide (PySem.W.mroIn K (He.ga K c) (.type "object") = some true))))
def fldB (K : PySem.W.Frag) (cs : List Str) (f : Str) : Bool := cs.all fun c => (He.Fa.cls c).ok K && (He.Fa.noat c f).ok K
abbrev cmAd (K : PySem.W.Frag) (c mn : Str) : Addr := He5.wf K (He.ga K c) "classmethod" mn
def hookY (n : Nat) (fa : List He.Fa) (fn : List He5.DefA) (ex : PySem.W.Frag → Bool) : PySem.W.Hook where
  α := He.AlD × Bool
  obs := fun s => (He5.obsAG n fa fn s.heap.get?, ex (He.frG s.heap.get? (He5.asA s.heap.get? n)))
  val := fun _ => (He5.valA fn, true)
  says := fun _ h => ∃ K : PySem.W.Frag, K.In h ∧ He5.SaysA fa fn K ∧ ex K = true
  of := fun _ _ e => ⟨_, He.frG_in, congrArg Prod.fst e, congrArg Prod.snd e⟩
  keeps := fun _ _ _ ⟨K, hK, c⟩ k => ⟨K, PySem.W.Frag.In.keeps hK k, c⟩
def obsY (n : Nat) (fa : List He.Fa) (fn : List He5.DefA) (ex : PySem.W.Frag → Bool) (g : Addr → Option Obj) : He.AlD × Bool := (He5.obsAG n fa fn g, ex (He.frG g (He5.asA g n)))
def atF (c : Str) (m : Option Str) : PySem.W.Frag → Addr := fun K => He.fAd K (c, m)
def atC (c m : Str) : PySem.W.Frag → Addr := fun K => cmAd K c m
def adrTup (K : PySem.W.Frag) (a : Addr) (xs : List AV) : Bool := match flatAll xs, K.lookup a with
  | some vs, some ⟨.type c, none, .seq its _, _⟩ => decide (c = "tuple") && (decide (its.size ≤ sizeLine) && He.relAll vs its.toList)
  | _, _ => false
def ownStrB (K : PySem.W.Frag) (c : Str) : Bool := He.eqO (PySem.W.findIn K (.ref (He.ga K c)) "__str__") (some (some (.ref (He.ma K (He.ga K c) "__str__")))) && PySem.W.isFn K (.ref (He.ma K (He.ga K c) "__str__"))
def ownEqB (K : PySem.W.Frag) (c : Str) : Bool := He.eqO (PySem.W.findIn K (.ref (He.ga K c)) "__eq__") (some (some (.ref (He.ma K (He.ga K c) "__eq__")))) && (PySem.W.isFn K (.ref (He.ma K (He.ga K c) "__eq__")) &&
  (He.eqO (PySem.W.findIn K (.ref (He.ga K c)) "__ne__") (some (some (.builtin "object.__ne__"))) && decide (PySem.W.mroIn K (He.ga K c) (.type "object") = some true)))
def clsMB (K : PySem.W.Frag) (c m : Str) : Bool := PySem.W.readsIn K (He.ga K c) (.type "type") && (decide (PySem.W.specialIn K (.ref (He.ga K c)) "__getattribute__" = some (some (.builtin "type.__getattribute__"))) && (He5.wrapB K (He.ga K c) "classmethod" "classmethod.__get__" m && PySem.W.fnIn K (cmAd K c m)))
def oexB (K : PySem.W.Frag) (c : Str) : Bool := (match K.lookup (He.ga K c) with
    | some ⟨.type t, dd, .cls ⟨nm, bs, mro, N, q, hd, sn, sub, ab, col, del⟩, sl⟩ => (match mro, sl.toList with
      | .ref C' :: bm, [_, _, _, _, some (.builtin n), _] => decide (t = "type") && (decide (C' = He.ga K c) && (decide (n = "ValueError.__new__") && (!del && (hd && PySem.HandSPX.refsVE bm))))
      | _, _ => false)
    | _ => false) && (He.eqO (PySem.W.findIn K (.ref (He.ga K c)) "__setattr__") (some (some (.builtin "object.__setattr__"))) && (decide (PySem.W.subIn K (.ref (He.ga K c)) (.type "BaseException") = some true) &&
    (decide (PySem.W.typeIn K (.ref (He.ga K c)) = some (.type "type")) && PySem.W.keepIn K (.ref (He.ga K c)))))
def xcB (K : PySem.W.Frag) (c f : Str) : Bool := oexB K c && (He.eqO (PySem.W.findIn K (.ref (He.ga K c)) f) (some none) && (He.eqO (PySem.W.findIn K (.ref (He.ga K c)) "__init__") (some (some (.ref (He.ma K (He.ga K c) "__init__")))) &&
  (decide (PySem.W.typeIn K (.ref (He.ma K (He.ga K c) "__init__")) = some (.type "function")) && decide (PySem.W.exmOne K (.ref (He.ga K c)) (.ref (He.ga K c)) = some true))))
/-- the head's facts, looked up at written addresses -/
def hookL (as : List Addr) (fa : List He.Fa) (fn : List He5.DefA) (ex : PySem.W.Frag → Bool) : PySem.W.Hook where
  α := He.AlD × Bool
  obs := fun s => (He5.obsA fa fn (He.frG s.heap.get? as), ex (He.frG s.heap.get? as))
  val := fun _ => (He5.valA fn, true)
  says := fun _ h => ∃ K : PySem.W.Frag, K.In h ∧ He5.SaysA fa fn K ∧ ex K = true
  of := fun _ _ e => ⟨_, He.frG_in, congrArg Prod.fst e, congrArg Prod.snd e⟩
  keeps := fun _ _ _ ⟨K, hK, c⟩ k => ⟨K, PySem.W.Frag.In.keeps hK k, c⟩
def obsL (as : List Addr) (fa : List He.Fa) (fn : List He5.DefA) (ex : PySem.W.Frag → Bool) (g : Addr → Option Obj) : He.AlD × Bool := (He5.obsA fa fn (He.frG g as), ex (He.frG g as))
theorem obsL_eq {as : List Addr} {fa : List He.Fa} {fn : List He5.DefA} {ex : PySem.W.Frag → Bool} {g : Addr → Option Obj} {s : Shared} (h : ∀ a, g a = s.heap.get? a) : obsL as fa fn ex g = (hookL as fa fn ex).obs s := by
  have e : g = s.heap.get? := funext h
  rw [e] <;> rfl
/-- what a run leaves, seen piece by piece -/
theorem opt_both {α β γ : Type} {o : Option α} {f : α → β} {g : α → γ} {b : β} {c : γ} (h1 : o.map f = some b) (h2 : o.map g = some c) : o.map (fun s => (f s, g s)) = some (b, c) := by
  cases o with
  | none => cases h1
  | some s =>
    cases (show f s = b from Option.some.inj h1)
    cases (show g s = c from Option.some.inj h2)
    rfl
theorem opt_and {α : Type} {o : Option α} {f g : α → Bool} (h1 : o.map f = some true) (h2 : o.map g = some true) : o.map (fun s => f s && g s) = some true := by
  cases o with
  | none => cases h1
  | some s =>
    have e1 : f s = true := Option.some.inj h1
    have e2 : g s = true := Option.some.inj h2
    show some (f s && g s) = some true
    rw [e1, e2]
    rfl
theorem opt_obs {α : Type} {o : Option α} {k : α → PySem.W.Frag} {fa fb : List He.Fa} {fn gn : List He5.DefA} (h1 : o.map (fun s => He5.obsA fa fn (k s)) = some (He5.valA fn)) (h2 : o.map (fun s => He5.obsA fb gn (k s)) = some (He5.valA gn)) :
    o.map (fun s => He5.obsA (fa ++ fb) (fn ++ gn) (k s)) = some (He5.valA (fn ++ gn)) := by
  cases o with
  | none => cases h1
  | some s =>
    have e1 : He5.obsA fa fn (k s) = He5.valA fn := Option.some.inj h1
    have e2 : He5.obsA fb gn (k s) = He5.valA gn := Option.some.inj h2
    show some (He5.obsA (fa ++ fb) (fn ++ gn) (k s)) = some (He5.valA (fn ++ gn))
    congr 1
    unfold He5.obsA He5.valA at e1 e2 ⊢
    obtain ⟨a1, a2⟩ := Prod.mk.inj e1
    obtain ⟨b1, b2⟩ := Prod.mk.inj e2
    obtain ⟨c1, c2⟩ := He.ba a1
    obtain ⟨d1, d2⟩ := He.ba b1
    rw [List.all_append, List.all_append, List.map_append, List.map_append, a2, b2, c1, c2, d1, d2]
    rfl
end Sm

set_option Elab.async false
set_option linter.all false
set_option maxRecDepth 100000
set_option maxHeartbeats 0
namespace T5
open PySem PySem.Spec PyProof.Rows L2 Sm
def top (i : Nat) : Stmt := PySem.Challenge.pw_asneverbegun_k05_worlds_known_by_hand.main.body.getD i (.Pass ⟨0, 0, 0, 0⟩)
def cbody : Stmt → List Stmt
  | .ClassDef _ _ _ b .. => b
  | _ => []
def cb (s : Stmt) (j : Nat) : Stmt := (cbody s).getD j (.Pass ⟨0, 0, 0, 0⟩)
def cls_cells : List Str := ["World"]
def cls_deeds : List Str := ["World"]
def cls_name : List Str := ["Deed"]
def cls_needs : List Str := ["Deed"]
def cls_sets : List Str := ["Deed"]
def cls_tells : List Str := ["Deed"]
def k_RESERVED : List AV := [.str "do", .str "undo", .str "else", .str "go", .str "sure", .str "cut", .str "back", .str "gone", .str "end", .str "key", .str "word", .str "ok", .str "no"]
def clsI : List Str := ["Deed", "World"]
def tbI : ITab := [(.own "Deed", .own "Deed", true), (.own "Deed", .own "World", false), (.own "Deed", .bi "bool", false), (.own "Deed", .bi "bytes", false), (.own "Deed", .bi "dict", false), (.own "Deed", .bi "int", false), (.own "Deed", .bi "list", false), (.own "Deed", .bi "str", false), (.own "Deed", .bi "tuple", false), (.own "World", .own "Deed", false), (.own "World", .own "World", true), (.own "World", .bi "bool", false), (.own "World", .bi "bytes", false), (.own "World", .bi "dict", false), (.own "World", .bi "int", false), (.own "World", .bi "list", false), (.own "World", .bi "str", false), (.own "World", .bi "tuple", false), (.bi "NoneType", .own "Deed", false), (.bi "NoneType", .own "World", false), (.bi "int", .own "Deed", false), (.bi "int", .own "World", false), (.bi "str", .own "Deed", false), (.bi "str", .own "World", false), (.bi "bool", .own "Deed", false), (.bi "bool", .own "World", false), (.bi "list", .own "Deed", false), (.bi "list", .own "World", false), (.bi "tuple", .own "Deed", false), (.bi "tuple", .own "World", false), (.bi "dict", .own "Deed", false), (.bi "dict", .own "World", false)]
def d_digits_of : He5.DefA := ⟨atF "digits_of" none, "digits_of", "digits_of", defArgs (top 11), defBody (top 11), defScope (top 11), [], []⟩
def d__parts_text : He5.DefA := ⟨atF "_parts_text" none, "_parts_text", "_parts_text", defArgs (top 33), defBody (top 33), defScope (top 33), [], []⟩
def d_Deed___str__ : He5.DefA := ⟨atF "Deed" (some "__str__"), "__str__", "Deed.__str__", defArgs (cb (top 20) 3), defBody (cb (top 20) 3), defScope (cb (top 20) 3), [], []⟩
def d_Deed___eq__ : He5.DefA := ⟨atF "Deed" (some "__eq__"), "__eq__", "Deed.__eq__", defArgs (cb (top 20) 2), defBody (cb (top 20) 2), defScope (cb (top 20) 2), [], []⟩
def d_are_different : He5.DefA := ⟨atF "are_different" none, "are_different", "are_different", defArgs (top 10), defBody (top 10), defScope (top 10), [], []⟩
def d_is_name : He5.DefA := ⟨atF "is_name" none, "is_name", "is_name", defArgs (top 6), defBody (top 6), defScope (top 6), [], []⟩
def d__are_different_cells : He5.DefA := ⟨atF "_are_different_cells" none, "_are_different_cells", "_are_different_cells", defArgs (top 29), defBody (top 29), defScope (top 29), [], []⟩
def d_is_integer : He5.DefA := ⟨atF "is_integer" none, "is_integer", "is_integer", defArgs (top 4), defBody (top 4), defScope (top 4), [], []⟩
def d_is_number : He5.DefA := ⟨atF "is_number" none, "is_number", "is_number", defArgs (top 5), defBody (top 5), defScope (top 5), [], []⟩
def d_is_sequence : He5.DefA := ⟨atF "is_sequence" none, "is_sequence", "is_sequence", defArgs (top 7), defBody (top 7), defScope (top 7), [], []⟩
def d_is_tuple : He5.DefA := ⟨atF "is_tuple" none, "is_tuple", "is_tuple", defArgs (top 8), defBody (top 8), defScope (top 8), [], []⟩
def d__are_needs : He5.DefA := ⟨atF "_are_needs" none, "_are_needs", "_are_needs", defArgs (top 25), defBody (top 25), defScope (top 25), [], []⟩
def d__is_setting : He5.DefA := ⟨atF "_is_setting" none, "_is_setting", "_is_setting", defArgs (top 27), defBody (top 27), defScope (top 27), [], []⟩
def d__are_sets : He5.DefA := ⟨atF "_are_sets" none, "_are_sets", "_are_sets", defArgs (top 26), defBody (top 26), defScope (top 26), [], []⟩
def d__are_tells : He5.DefA := ⟨atF "_are_tells" none, "_are_tells", "_are_tells", defArgs (top 28), defBody (top 28), defScope (top 28), [], []⟩
def d_Deed___init__ : He5.DefA := ⟨atF "Deed" (some "__init__"), "__init__", "Deed.__init__", defArgs (cb (top 20) 0), defBody (cb (top 20) 0), defScope (cb (top 20) 0), [.adr (He.dflAt ("Deed", some "__init__") 0), .adr (He.dflAt ("Deed", some "__init__") 1), .adr (He.dflAt ("Deed", some "__init__") 2)], []⟩
def d_is_number_text : He5.DefA := ⟨atF "is_number_text" none, "is_number_text", "is_number_text", defArgs (top 9), defBody (top 9), defScope (top 9), [], []⟩
def d__take_part : He5.DefA := ⟨atF "_take_part" none, "_take_part", "_take_part", defArgs (top 35), defBody (top 35), defScope (top 35), [], []⟩
def d__read_deed : He5.DefA := ⟨atF "_read_deed" none, "_read_deed", "_read_deed", defArgs (top 34), defBody (top 34), defScope (top 34), [], []⟩
def d_Deed_read : He5.DefA := ⟨atC "Deed" "read", "read", "Deed.read", defArgs (cb (top 20) 1), defBody (cb (top 20) 1), defScope (cb (top 20) 1), [], []⟩
def d__are_cells : He5.DefA := ⟨atF "_are_cells" none, "_are_cells", "_are_cells", defArgs (top 30), defBody (top 30), defScope (top 30), [], []⟩
def d__fits : He5.DefA := ⟨atF "_fits" none, "_fits", "_fits", defArgs (top 32), defBody (top 32), defScope (top 32), [], []⟩
def d__are_deeds : He5.DefA := ⟨atF "_are_deeds" none, "_are_deeds", "_are_deeds", defArgs (top 31), defBody (top 31), defScope (top 31), [], []⟩
def d_World___init__ : He5.DefA := ⟨atF "World" (some "__init__"), "__init__", "World.__init__", defArgs (cb (top 21) 0), defBody (cb (top 21) 0), defScope (cb (top 21) 0), [], []⟩
def d_World_deed : He5.DefA := ⟨atF "World" (some "deed"), "deed", "World.deed", defArgs (cb (top 21) 1), defBody (cb (top 21) 1), defScope (cb (top 21) 1), [], []⟩
def d_World_scenes : He5.DefA := ⟨atF "World" (some "scenes"), "scenes", "World.scenes", defArgs (cb (top 21) 2), defBody (cb (top 21) 2), defScope (cb (top 21) 2), [], []⟩
def d_is_scene : He5.DefA := ⟨atF "is_scene" none, "is_scene", "is_scene", defArgs (top 24), defBody (top 24), defScope (top 24), [], []⟩
def d_done : He5.DefA := ⟨atF "done" none, "done", "done", defArgs (top 22), defBody (top 22), defScope (top 22), [.adr (He.dflAt ("done", none) 0)], []⟩
def d_told : He5.DefA := ⟨atF "told" none, "told", "told", defArgs (top 23), defBody (top 23), defScope (top 23), [], []⟩
def d__law_deal : He5.DefA := ⟨atF "_law_deal" none, "_law_deal", "_law_deal", defArgs (top 37), defBody (top 37), defScope (top 37), [], []⟩
def d__law_draw : He5.DefA := ⟨atF "_law_draw" none, "_law_draw", "_law_draw", defArgs (top 38), defBody (top 38), defScope (top 38), [], []⟩
def d_InvalidDeed___init__ : He5.DefA := ⟨atF "InvalidDeed" (some "__init__"), "__init__", "InvalidDeed.__init__", defArgs (cb (top 14) 0), defBody (cb (top 14) 0), defScope (cb (top 14) 0), [], []⟩
def d_InvalidText___init__ : He5.DefA := ⟨atF "InvalidText" (some "__init__"), "__init__", "InvalidText.__init__", defArgs (cb (top 16) 0), defBody (cb (top 16) 0), defScope (cb (top 16) 0), [], []⟩
def d_InvalidWorld___init__ : He5.DefA := ⟨atF "InvalidWorld" (some "__init__"), "__init__", "InvalidWorld.__init__", defArgs (cb (top 15) 0), defBody (cb (top 15) 0), defScope (cb (top 15) 0), [], []⟩
def d_law : He5.DefA := ⟨atF "law" none, "law", "law", defArgs (top 41), defBody (top 41), defScope (top 41), [], []⟩
def fn0 : List He5.DefA := [d_digits_of, d__parts_text, d_Deed___str__, d_Deed___eq__, d_are_different, d_is_name, d__are_different_cells, d_is_integer, d_is_number, d_is_sequence, d_is_tuple, d__are_needs, d__is_setting, d__are_sets, d__are_tells, d_Deed___init__, d_is_number_text, d__take_part]
def fn1 : List He5.DefA := [d__read_deed, d_Deed_read, d__are_cells, d__fits, d__are_deeds, d_World___init__, d_World_deed, d_World_scenes, d_is_scene, d_done, d_told, d__law_deal, d__law_draw, d_InvalidDeed___init__, d_InvalidText___init__, d_InvalidWorld___init__, d_law]
def fa0 : List He.Fa := [.glo "Deed", .glo "InvalidDeed", .glo "InvalidText", .glo "InvalidWorld", .glo "RESERVED", .glo "World", .glo "_are_cells", .glo "_are_deeds", .glo "_are_different_cells", .glo "_are_needs", .glo "_are_sets", .glo "_are_tells", .glo "_fits", .glo "_is_setting", .glo "_law_deal", .glo "_law_draw", .glo "_parts_text", .glo "_read_deed"]
def fa1 : List He.Fa := [.glo "_take_part", .glo "are_different", .glo "digits_of", .glo "done", .glo "is_integer", .glo "is_name", .glo "is_number", .glo "is_number_text", .glo "is_scene", .glo "is_sequence", .glo "is_tuple", .glo "told", .free "abs", .free "all", .free "any", .free "bool", .free "dict", .free "divmod"]
def fa2 : List He.Fa := [.free "int", .free "isinstance", .free "len", .free "list", .free "max", .free "min", .free "range", .free "set", .free "sorted", .free "str", .free "tuple", .free "zip", .meth "World" "deed", .cls "World", .meth "World" "scenes", .mkr "Deed", .mkr "World", .str "DIGITS" "0123456789"]
def fa3 : List He.Fa := [.str "LETTERS" "abcdefghijklmnopqrstuvwxyz", .glo "law"]
def exB0 (K : PySem.W.Frag) : Bool := topTup K "RESERVED" k_RESERVED && (fldB K cls_cells "cells" && (fldB K cls_deeds "deeds" && (fldB K cls_name "name" && (fldB K cls_needs "needs" && (fldB K cls_sets "sets" && (fldB K cls_tells "tells" && (clsMB K "Deed" "read" && (ownEqB K "Deed" && (ownStrB K "Deed" && (xcB K "InvalidDeed" "word" && (xcB K "InvalidText" "at" && (xcB K "InvalidWorld" "word" && (adrTup K (He.dflAt ("Deed", some "__init__") 0 K) [] && (adrTup K (He.dflAt ("Deed", some "__init__") 1 K) [] && (adrTup K (He.dflAt ("Deed", some "__init__") 2 K) [] && (adrTup K (He.dflAt ("done", none) 0 K) [] && (tabB K clsI tbI && (insB K clsI))))))))))))))))))
def exB (K : PySem.W.Frag) : Bool := exB0 K
def fa : List He.Fa := fa0 ++ (fa1 ++ (fa2 ++ (fa3)))
def fn : List He5.DefA := fn0 ++ (fn1 ++ ([] ++ ([])))
def AS : List Addr := [3, 6, 4, 15, 22, 29, 34, 41, 48, 53, 60, 67, 77, 97, 116, 135, 154, 173, 221, 254, 265, 270, 275, 280, 285, 292, 297, 302, 307, 312, 317, 322, 329, 336, 341, 348, 355, 362, 369, 0, 21, 28, 33, 40, 47, 52, 59, 66, 76, 96, 115, 134, 153, 172, 220, 253, 264, 260, 269, 274, 279, 284, 291, 296, 301, 306, 311, 316, 321, 328, 335, 340, 347, 354, 361, 368, 16, 17, 18, 19, 20, 23, 24, 25, 26, 27, 30, 31, 32, 35, 36, 37, 38, 39, 42, 43, 44, 45, 46, 49, 50, 51, 54, 55, 56, 57, 58, 61, 62, 63, 64, 65, 75, 78, 94, 95, 113, 114, 132, 133, 151, 152, 170, 171, 174, 194, 203, 211, 218, 219, 222, 223, 239, 246, 251, 252, 255, 256, 261, 262, 263, 259, 266, 267, 268, 271, 272, 273, 276, 277, 278, 281, 282, 283, 286, 287, 288, 289, 290, 293, 294, 295, 298, 299, 300, 303, 304, 305, 308, 309, 310, 313, 314, 315, 318, 319, 320, 323, 324, 325, 326, 327, 330, 331, 332, 333, 334, 337, 338, 339, 342, 343, 344, 345, 346, 349, 350, 351, 352, 353, 356, 357, 358, 359, 360, 363, 364, 365, 366, 367, 93, 112, 131, 150, 169, 193, 187, 201, 202, 210, 217, 238, 245, 250, 88, 89, 90, 91, 92, 107, 108, 109, 110, 111, 126, 127, 128, 129, 130, 145, 146, 147, 148, 149, 164, 165, 166, 167, 168, 188, 189, 190, 191, 192, 184, 185, 186, 200, 204, 205, 206, 207, 208, 209, 212, 213, 214, 215, 216, 233, 234, 235, 236, 237, 240, 241, 242, 243, 244, 247, 248, 249, 195, 196, 197, 198, 199, 2]
def loose0 : List PySem.Str := ["RESERVED", "LETTERS", "DIGITS", "is_integer", "is_number", "is_name", "is_sequence", "is_tuple", "is_number_text", "are_different", "digits_of", "WorkError", "InvalidDeed", "InvalidWorld", "InvalidText", "InvalidScene", "NoName", "Deed", "World", "done", "told", "is_scene", "_are_needs", "_are_sets", "_is_setting", "_are_tells", "_are_different_cells", "_are_cells", "_are_deeds", "_fits"]
def loose1 : List PySem.Str := ["_parts_text", "_read_deed", "_take_part", "_law_deal", "_law_draw", "_law_pick", "_law_mixed"]
def loose : List PySem.Str := loose0 ++ loose1
abbrev R : PySem.W.OpenRow := PySem.W.OpenLaw.row PySem.Challenge.rw_asneverbegun_k05_worlds_known_by_hand
abbrev hk : PySem.W.Hook := hookL AS fa fn exB
def ob (s : PySem.W.SharedT) : He.AlD × Bool := obsL AS fa fn exB (HandSHeadRun.getT s)
open PySem.W HandSHeadRun in
noncomputable abbrev EF (w : World) (os : OsState) : Option PySem.W.SharedT := endF (stepQ (denQ tabQ) R.prog w) 60000 R.prog w os
abbrev fr (s : PySem.W.SharedT) : PySem.W.Frag := He.frG (HandSHeadRun.getT s) AS
open PySem.W HandSHeadRun in
theorem run_l (w : World) (os : OsState) : (EF w os).map (fun s => (looksF R.prog (boot_heap w.params) s.abs, seenQ (PySem.W.view R.prog [41]) loose (importedModules R.prog.main.body) (fun s => xlAt (PySem.W.view R.prog [41]) [] s && recOk R.toRowW.records s) s.abs)) = some (true, openGood (PySem.W.view R.prog [41]) loose) := by
  kernel_rfl
theorem run_f0 (w : World) (os : OsState) : (EF w os).map (fun s => He5.obsA fa fn (fr s)) = some (He5.valA fn) := by
  kernel_rfl
theorem run_e0 (w : World) (os : OsState) : (EF w os).map (fun s => exB0 (fr s)) = some true := by
  kernel_rfl
theorem run (w : World) : HandSHeadRun.RunEq R (PySem.W.view R.prog [41]) hk ob 60000 loose w := by
  intro os
  have a := run_l w os
  have b : (EF w os).map (fun s => He5.obsA fa fn (fr s)) = some (He5.valA fn) := run_f0 w os
  have c : (EF w os).map (fun s => exB (fr s)) = some true := run_e0 w os
  have d := opt_both a (opt_both b c)
  show (EF w os).map _ = _
  cases h : EF w os with
  | none => rw [h] at d; cases d
  | some s =>
    rw [h] at d
    have e := Option.some.inj d
    have e1 := congrArg (fun x => x.1.1) e
    have e2 := congrArg (fun x => x.1.2) e
    have e3 := congrArg (fun x => x.2) e
    exact congrArg some (Prod.ext e1 (Prod.ext e2 e3))
end T5

set_option Elab.async false
set_option linter.all false
set_option maxRecDepth 100000
set_option maxHeartbeats 4000000
/-! Sm: a mirror of a program's defs as plain Lean functions over an abstract heap, and what ties it to the hand layer. -/
namespace Sm
open PySem PySem.Spec PyProof.Rows L2

/-! ### abstract values and objects -/
inductive AO where
  | lst (xs : List AV)
  | fls (xs : List AV)
  | dct (kvs : List (Key × AV))
  | ins (c : Str) (fs : List (Str × AV))
abbrev AH := List AO

structure KC where
  K : PySem.W.Frag
  mg : Str → Option Value

/-- at p a tuple without a dict of its own -/
def SqN (K : PySem.W.Frag) (H : Hp) (p : Addr) (vs : List V) : Prop :=
  (∃ o, H p = some (.frz o (.tup vs)) ∧ o.cls = .type "tuple" ∧ o.dict = none) ∨
    ∃ (o : Obj) (its : Array Value) (n : Nat), K.lookup p = some o ∧ o.cls = .type "tuple" ∧ o.dict = none ∧ o.data = .seq its n ∧ its.size ≤ sizeLine ∧ Vals vs its.toList
theorem SqN.t {K : PySem.W.Frag} {H : Hp} {p : Addr} {vs : List V} (h : SqN K H p vs) : SqT K H p vs := by
  rcases h with ⟨o, h, _⟩ | ⟨o, its, n, h1, h2, _, h3, h4, h5⟩
  · exact .inl (.inr ⟨o, h⟩)
  · exact .inr ⟨o, its, n, h1, h2, h3, h4, h5⟩
/-- at p a list that never changes -/
def SqF (K : PySem.W.Frag) (H : Hp) (p : Addr) (vs : List V) : Prop :=
  (∃ o, H p = some (.frz o (.lst vs))) ∨
    ∃ (o : Obj) (its : Array Value) (n : Nat), K.lookup p = some o ∧ o.cls = .type "list" ∧ o.dict = none ∧ o.data = .seq its n ∧ its.size ≤ sizeLine ∧ Vals vs its.toList
theorem SqF.l {K : PySem.W.Frag} {H : Hp} {p : Addr} {vs : List V} (h : SqF K H p vs) : SqL K H p vs := by
  rcases h with h | h
  · exact .inl (.inr h)
  · exact .inr h
/-- both, by a bool -/
def SqB (K : PySem.W.Frag) (H : Hp) : Bool → Addr → List V → Prop
  | true => SqN K H
  | false => SqF K H
mutual
inductive RV (C : KC) (ρ : Nat → Addr) (n : Nat) (H : Hp) : AV → V → Prop where
  | non : RV C ρ n H .non .non
  | bl (b : Bool) : RV C ρ n H (.bl b) (.bl b)
  | int (i : Int) : RV C ρ n H (.int i) (.int i)
  | str (s : Str) : RV C ρ n H (.str s) (.str s)
  | ty (t : String) : RV C ρ n H (.ty t) (.ty t)
  | glo {x : Str} {a : Addr} : C.mg x = some (.ref a) → RV C ρ n H (.glo x) (.ref a)
  | obj {i : Nat} : i < n → RV C ρ n H (.obj i) (.ref (ρ i))
  | tup {xs : List AV} {vs : List V} {p : Addr} : SqN C.K H p vs → RVs C ρ n H xs vs → RV C ρ n H (.tup xs) (.ref p)
  | fl {xs : List Int} {p : Addr} : SqF C.K H p (xs.map V.int) → RV C ρ n H (.fl xs) (.ref p)
inductive RVs (C : KC) (ρ : Nat → Addr) (n : Nat) (H : Hp) : List AV → List V → Prop where
  | nil : RVs C ρ n H [] []
  | cons {x : AV} {v : V} {xs : List AV} {vs : List V} : RV C ρ n H x v → RVs C ρ n H xs vs → RVs C ρ n H (x :: xs) (v :: vs)
end

/-- what never changes once it stands -/
def Stab : HO → Prop
  | .lst _ => False
  | .dK _ => False
  | .dT _ => False
  | .set _ _ => False
  | .ins _ _ _ => False
  | .xd _ => False
  | .ext _ => False
  | .tbl _ => False
  | _ => True
structure Ext (ρ : Nat → Addr) (n : Nat) (H : Hp) (ρ' : Nat → Addr) (n' : Nat) (H' : Hp) : Prop where
  le : n ≤ n'
  ag : ∀ i, i < n → ρ' i = ρ i
  nw : ∀ i, n ≤ i → i < n' → H (ρ' i) = none
  kp : ∀ a o, H a = some o → (Stab o ∨ ∀ i, i < n → ρ i ≠ a) → H' a = some o
  th : ∀ a o, H a = some o → ∃ o', H' a = some o'
theorem Ext.refl {ρ : Nat → Addr} {n : Nat} {H : Hp} : Ext ρ n H ρ n H := ⟨Nat.le_refl _, fun _ _ => rfl, fun i h1 h2 => by omega, fun _ _ h _ => h, fun _ o h => ⟨o, h⟩⟩
theorem Ext.trans {ρ ρ1 ρ2 : Nat → Addr} {n n1 n2 : Nat} {H H1 H2 : Hp} (a : Ext ρ n H ρ1 n1 H1) (b : Ext ρ1 n1 H1 ρ2 n2 H2) : Ext ρ n H ρ2 n2 H2 := by
  refine ⟨Nat.le_trans a.le b.le, fun i h => (b.ag i (Nat.lt_of_lt_of_le h a.le)).trans (a.ag i h), fun i h1 h2 => ?_, fun x o h s => ?_, fun x o h => ?_⟩
  · by_cases q : i < n1
    · rw [b.ag i q]
      exact a.nw i h1 q
    · have z := b.nw i (Nat.le_of_not_lt q) h2
      cases e : H (ρ2 i) with
      | none => rfl
      | some o =>
        obtain ⟨o', y⟩ := a.th _ _ e
        rw [z] at y
        cases y
  · refine b.kp x o (a.kp x o h s) ?_
    rcases s with s | s
    · exact .inl s
    · refine .inr fun i hi => ?_
      by_cases q : i < n
      · rw [a.ag i q]
        exact s i q
      · have z := a.nw i (Nat.le_of_not_lt q) hi
        rintro rfl
        rw [z] at h
        cases h
  · obtain ⟨o1, h1⟩ := a.th x o h
    exact b.th x o1 h1

section
variable {C : KC} {ρ ρ' : Nat → Addr} {n n' : Nat} {H H' : Hp} {ah ah' : AH} {x y : AV} {v u : V} {xs ys : List AV} {vs us : List V}
theorem Ext.sqN (e : Ext ρ n H ρ' n' H') {K : PySem.W.Frag} {p : Addr} {ws : List V} (h : SqN K H p ws) : SqN K H' p ws := by
  rcases h with ⟨o, h, k⟩ | h
  · exact .inl ⟨o, e.kp _ _ h (.inl trivial), k⟩
  · exact .inr h
theorem Ext.sqF (e : Ext ρ n H ρ' n' H') {K : PySem.W.Frag} {p : Addr} {ws : List V} (h : SqF K H p ws) : SqF K H' p ws := by
  rcases h with ⟨o, h⟩ | h
  · exact .inl ⟨o, e.kp _ _ h (.inl trivial)⟩
  · exact .inr h
theorem Ext.sqT (e : Ext ρ n H ρ' n' H') {K : PySem.W.Frag} {p : Addr} {ws : List V} (h : SqT K H p ws) : SqT K H' p ws := by
  rcases h with (h | ⟨o, h⟩) | h
  · exact .inl (.inl (e.kp _ _ h (.inl trivial)))
  · exact .inl (.inr ⟨o, e.kp _ _ h (.inl trivial)⟩)
  · exact .inr h
mutual
theorem RV.mono (e : Ext ρ n H ρ' n' H') : ∀ {x : AV} {v : V}, RV C ρ n H x v → RV C ρ' n' H' x v
  | _, _, .non => .non
  | _, _, .bl b => .bl b
  | _, _, .int i => .int i
  | _, _, .str s => .str s
  | _, _, .ty t => .ty t
  | _, _, .glo h => .glo h
  | _, _, .obj h => by
    have q := e.ag _ h
    rw [← q]
    exact .obj (Nat.lt_of_lt_of_le h e.le)
  | _, _, .tup h r => .tup (e.sqN h) (RVs.mono e r)
  | _, _, .fl h => .fl (e.sqF h)
theorem RVs.mono (e : Ext ρ n H ρ' n' H') : ∀ {xs : List AV} {vs : List V}, RVs C ρ n H xs vs → RVs C ρ' n' H' xs vs
  | _, _, .nil => .nil
  | _, _, .cons a b => .cons (RV.mono e a) (RVs.mono e b)
end
theorem RVs.length : ∀ {xs : List AV} {vs : List V}, RVs C ρ n H xs vs → xs.length = vs.length
  | _, _, .nil => rfl
  | _, _, .cons _ b => by rw [List.length_cons, List.length_cons, RVs.length b]
theorem RVs.get : ∀ {xs : List AV} {vs : List V} {i : Nat} {x : AV}, RVs C ρ n H xs vs → xs[i]? = some x → ∃ v, vs[i]? = some v ∧ RV C ρ n H x v
  | _, _, _, _, .nil, e => by simp at e
  | _, _, 0, _, .cons r _, e => by simp at e; subst e; exact ⟨_, rfl, r⟩
  | _, _, i + 1, x, .cons _ t, e => by
    obtain ⟨u, h1, h2⟩ := RVs.get (i := i) (x := x) t (by simpa using e)
    exact ⟨u, by simpa using h1, h2⟩
theorem RVs.getV : ∀ {xs : List AV} {vs : List V} {i : Nat} {v : V}, RVs C ρ n H xs vs → vs[i]? = some v → ∃ x, xs[i]? = some x ∧ RV C ρ n H x v
  | _, _, _, _, .nil, e => by simp at e
  | _, _, 0, _, .cons r _, e => by simp at e; subst e; exact ⟨_, rfl, r⟩
  | _, _, i + 1, v, .cons _ t, e => by
    obtain ⟨u, h1, h2⟩ := RVs.getV (i := i) (v := v) t (by simpa using e)
    exact ⟨u, by simpa using h1, h2⟩
theorem RVs.append : ∀ {xs ys : List AV} {vs us : List V}, RVs C ρ n H xs vs → RVs C ρ n H ys us → RVs C ρ n H (xs ++ ys) (vs ++ us)
  | _, _, _, _, .nil, s => s
  | _, _, _, _, .cons r t, s => .cons r (RVs.append t s)
theorem RVs.set : ∀ {xs : List AV} {vs : List V} (i : Nat), RV C ρ n H x v → RVs C ρ n H xs vs → RVs C ρ n H (xs.set i x) (vs.set i v)
  | _, _, _, _, .nil => .nil
  | _, _, 0, r, .cons _ t => .cons r t
  | _, _, i + 1, r, .cons q t => .cons q (RVs.set i r t)
theorem RVs.take : ∀ {xs : List AV} {vs : List V} (k : Nat), RVs C ρ n H xs vs → RVs C ρ n H (xs.take k) (vs.take k)
  | _, _, 0, _ => .nil
  | _, _, _ + 1, .nil => .nil
  | _, _, k + 1, .cons r t => .cons r (RVs.take k t)
theorem RVs.drop : ∀ {xs : List AV} {vs : List V} (k : Nat), RVs C ρ n H xs vs → RVs C ρ n H (xs.drop k) (vs.drop k)
  | _, _, 0, r => r
  | _, _, _ + 1, .nil => .nil
  | _, _, k + 1, .cons r t => RVs.drop k t
theorem RVs.reverse : ∀ {xs : List AV} {vs : List V}, RVs C ρ n H xs vs → RVs C ρ n H xs.reverse vs.reverse
  | _, _, .nil => .nil
  | _, _, .cons r t => by
    rw [List.reverse_cons, List.reverse_cons]
    exact RVs.append (RVs.reverse t) (.cons r .nil)
end

/-! ### objects -/
def KVs (C : KC) (ρ : Nat → Addr) (n : Nat) (H : Hp) {κ : Type} (kvs : List (κ × AV)) (ws : List (κ × V)) : Prop :=
  kvs.map (·.1) = ws.map (·.1) ∧ RVs C ρ n H (kvs.map (·.2)) (ws.map (·.2))
def RO (C : KC) (ρ : Nat → Addr) (n : Nat) (H : Hp) : AO → Addr → Prop
  | .lst xs, a => ∃ vs, H a = some (.lst vs) ∧ RVs C ρ n H xs vs
  | .fls xs, a => ∃ o vs, H a = some (.frz o (.lst vs)) ∧ RVs C ρ n H xs vs
  | .dct kvs, a => ∃ ws, H a = some (.dK ws) ∧ KVs C ρ n H kvs ws
  | .ins c fs, a => ∃ Ca dx ws, C.mg c = some (.ref Ca) ∧ H a = some (.ins Ca dx ws) ∧ KVs C ρ n H fs ws
structure Rep (C : KC) (ρ : Nat → Addr) (ah : AH) (H : Hp) : Prop where
  obj : ∀ i o, ah[i]? = some o → RO C ρ ah.length H o (ρ i)
  inj : ∀ i j, i < ah.length → j < ah.length → ρ i = ρ j → i = j
section
variable {C : KC} {ρ ρ' : Nat → Addr} {n n' : Nat} {H H' : Hp} {ah ah' : AH} {x y : AV} {v u : V} {xs ys : List AV} {vs us : List V} {o o' : AO} {a p : Addr}
theorem RO.there (h : RO C ρ n H o a) : ∃ u, H a = some u := by
  cases o with
  | lst => obtain ⟨_, h, _⟩ := h; exact ⟨_, h⟩
  | fls => obtain ⟨_, _, h, _⟩ := h; exact ⟨_, h⟩
  | dct => obtain ⟨_, h, _⟩ := h; exact ⟨_, h⟩
  | ins => obtain ⟨_, _, _, _, h, _⟩ := h; exact ⟨_, h⟩
/-- an object that still stands as it stood -/
theorem RO.keep (e : Ext ρ n H ρ' n' H') (q : H' a = H a) (h : RO C ρ n H o a) : RO C ρ' n' H' o a := by
  cases o with
  | lst => obtain ⟨_, h, r⟩ := h; exact ⟨_, q.trans h, r.mono e⟩
  | fls => obtain ⟨_, _, h, r⟩ := h; exact ⟨_, _, q.trans h, r.mono e⟩
  | dct => obtain ⟨_, h, r1, r⟩ := h; exact ⟨_, q.trans h, r1, r.mono e⟩
  | ins => obtain ⟨_, _, _, m, h, r1, r⟩ := h; exact ⟨_, _, _, m, q.trans h, r1, r.mono e⟩
mutual
theorem RV.mono2 (ag : ∀ i, i < n → ρ' i = ρ i) (le : n ≤ n') (k : ∀ b p ws, SqB C.K H b p ws → SqB C.K H' b p ws) : ∀ {x : AV} {v : V}, RV C ρ n H x v → RV C ρ' n' H' x v
  | _, _, .non => .non
  | _, _, .bl b => .bl b
  | _, _, .int i => .int i
  | _, _, .str s => .str s
  | _, _, .ty t => .ty t
  | _, _, .glo h => .glo h
  | _, _, .obj h => by
    rw [← ag _ h]
    exact .obj (Nat.lt_of_lt_of_le h le)
  | _, _, .tup h r => .tup (k true _ _ h) (RVs.mono2 ag le k r)
  | _, _, .fl h => .fl (k false _ _ h)
theorem RVs.mono2 (ag : ∀ i, i < n → ρ' i = ρ i) (le : n ≤ n') (k : ∀ b p ws, SqB C.K H b p ws → SqB C.K H' b p ws) : ∀ {xs : List AV} {vs : List V}, RVs C ρ n H xs vs → RVs C ρ' n' H' xs vs
  | _, _, .nil => .nil
  | _, _, .cons a b => .cons (RV.mono2 ag le k a) (RVs.mono2 ag le k b)
end
theorem RO.mono2 (ag : ∀ i, i < n → ρ' i = ρ i) (le : n ≤ n') (k : ∀ b p ws, SqB C.K H b p ws → SqB C.K H' b p ws) (q : H' a = H a) (h : RO C ρ n H o a) : RO C ρ' n' H' o a := by
  cases o with
  | lst => obtain ⟨_, h, r⟩ := h; exact ⟨_, q.trans h, r.mono2 ag le k⟩
  | fls => obtain ⟨_, _, h, r⟩ := h; exact ⟨_, _, q.trans h, r.mono2 ag le k⟩
  | dct => obtain ⟨_, h, r1, r⟩ := h; exact ⟨_, q.trans h, r1, r.mono2 ag le k⟩
  | ins => obtain ⟨_, _, _, m, h, r1, r⟩ := h; exact ⟨_, _, _, m, q.trans h, r1, r.mono2 ag le k⟩
/-- what what is walked leans on -/
structure ExtW (ρ : Nat → Addr) (n : Nat) (H : Hp) (ρ' : Nat → Addr) (n' : Nat) (H' : Hp) : Prop where
  le : n ≤ n'
  ag : ∀ i, i < n → ρ' i = ρ i
  kp : ∀ a o, H a = some o → Stab o → H' a = some o
theorem Ext.w (e : Ext ρ n H ρ' n' H') : ExtW ρ n H ρ' n' H' := ⟨e.le, e.ag, fun a o h s => e.kp a o h (.inl s)⟩
theorem ExtW.sqN (e : ExtW ρ n H ρ' n' H') {K : PySem.W.Frag} {p : Addr} {ws : List V} (h : SqN K H p ws) : SqN K H' p ws := by
  rcases h with ⟨o, h, k⟩ | h
  · exact .inl ⟨o, e.kp _ _ h trivial, k⟩
  · exact .inr h
theorem ExtW.sqF (e : ExtW ρ n H ρ' n' H') {K : PySem.W.Frag} {p : Addr} {ws : List V} (h : SqF K H p ws) : SqF K H' p ws := by
  rcases h with ⟨o, h⟩ | h
  · exact .inl ⟨o, e.kp _ _ h trivial⟩
  · exact .inr h
theorem ExtW.sqB (e : ExtW ρ n H ρ' n' H') {K : PySem.W.Frag} : ∀ (b : Bool) (p : Addr) (ws : List V), SqB K H b p ws → SqB K H' b p ws
  | true, _, _, h => e.sqN h
  | false, _, _, h => e.sqF h
theorem ExtW.sqT (e : ExtW ρ n H ρ' n' H') {K : PySem.W.Frag} {p : Addr} {ws : List V} (h : SqT K H p ws) : SqT K H' p ws := by
  rcases h with (h | ⟨o, h⟩) | h
  · exact .inl (.inl (e.kp _ _ h trivial))
  · exact .inl (.inr ⟨o, e.kp _ _ h trivial⟩)
  · exact .inr h
theorem RV.monoW (e : ExtW ρ n H ρ' n' H') (h : RV C ρ n H x v) : RV C ρ' n' H' x v := RV.mono2 e.ag e.le e.sqB h
theorem RVs.monoW (e : ExtW ρ n H ρ' n' H') (h : RVs C ρ n H xs vs) : RVs C ρ' n' H' xs vs := RVs.mono2 e.ag e.le e.sqB h
theorem Rep.there (R : Rep C ρ ah H) {i : Nat} (h : i < ah.length) : ∃ u, H (ρ i) = some u := (R.obj i ah[i] (List.getElem?_eq_getElem h)).there
/-- new things beside -/
theorem Rep.grow (R : Rep C ρ ah H) (k : ∀ b u, H b = some u → H' b = some u) : Rep C ρ ah H' ∧ Ext ρ ah.length H ρ ah.length H' := by
  have e : Ext ρ ah.length H ρ ah.length H' := ⟨Nat.le_refl _, fun _ _ => rfl, fun i h1 h2 => by omega, fun b u h _ => k b u h, fun b u h => ⟨u, k b u h⟩⟩
  refine ⟨⟨fun i o h => ?_, R.inj⟩, e⟩
  have q := R.obj i o h
  obtain ⟨u, hu⟩ := q.there
  exact q.keep e ((k _ _ hu).trans hu.symm)
def rput (ρ : Nat → Addr) (n : Nat) (p : Addr) : Nat → Addr := fun i => if i = n then p else ρ i
theorem rput_same {ρ : Nat → Addr} {n : Nat} {p : Addr} : rput ρ n p n = p := if_pos rfl
theorem rput_lt {ρ : Nat → Addr} {n : Nat} {p : Addr} {i : Nat} (h : i < n) : rput ρ n p i = ρ i := if_neg (Nat.ne_of_lt h)
theorem Ext.alloc (k : ∀ b u, H b = some u → H' b = some u) (hp : H p = none) : Ext ρ n H (rput ρ n p) (n + 1) H' := ⟨Nat.le_succ _, fun _ h => rput_lt h, fun i h1 h2 => by
  have : i = n := by omega
  subst this
  rw [rput_same]
  exact hp, fun b u h _ => k b u h, fun b u h => ⟨u, k b u h⟩⟩
/-- a new object -/
theorem Rep.alloc (R : Rep C ρ ah H) (k : ∀ b u, H b = some u → H' b = some u) (hp : H p = none) (ho : RO C (rput ρ ah.length p) (ah.length + 1) H' o p) : Rep C (rput ρ ah.length p) (ah ++ [o]) H' := by
  have e : Ext ρ ah.length H (rput ρ ah.length p) (ah.length + 1) H' := .alloc k hp
  have hl : (ah ++ [o]).length = ah.length + 1 := by simp
  refine ⟨fun i o' h => ?_, fun i j hi hj q => ?_⟩
  · rw [hl]
    by_cases hi : i < ah.length
    · rw [List.getElem?_append_left hi] at h
      rw [rput_lt hi]
      have z := R.obj i o' h
      obtain ⟨u, hu⟩ := z.there
      exact z.keep e ((k _ _ hu).trans hu.symm)
    · have hi2 : i = ah.length := by
        have := (List.getElem?_eq_some_iff.mp h).1
        rw [hl] at this
        omega
      subst hi2
      rw [List.getElem?_append_right (Nat.le_refl _), Nat.sub_self] at h
      have : o = o' := by simpa using h
      subst this
      rw [rput_same]
      exact ho
  · rw [hl] at hi hj
    have nn : ∀ i, i < ah.length → ρ i ≠ p := fun i h z => by
      obtain ⟨u, hu⟩ := R.there h
      rw [z, hp] at hu
      cases hu
    by_cases hi' : i < ah.length
    · rw [rput_lt hi'] at q
      by_cases hj' : j < ah.length
      · rw [rput_lt hj'] at q
        exact R.inj i j hi' hj' q
      · have : j = ah.length := by omega
        subst this
        rw [rput_same] at q
        exact absurd q (nn i hi')
    · have : i = ah.length := by omega
      subst this
      rw [rput_same] at q
      by_cases hj' : j < ah.length
      · rw [rput_lt hj'] at q
        exact absurd q.symm (nn j hj')
      · omega
/-- an object is changed -/
theorem Rep.write {i : Nat} {w w' : HO} (R : Rep C ρ ah H) (hi : i < ah.length) (hw : H (ρ i) = some w) (hs : ¬ Stab w)
    (ho : Ext ρ ah.length H ρ ah.length (upd H (ρ i) w') → RO C ρ ah.length (upd H (ρ i) w') o (ρ i)) : Rep C ρ (ah.set i o) (upd H (ρ i) w') ∧ Ext ρ ah.length H ρ (ah.set i o).length (upd H (ρ i) w') := by
  have e : Ext ρ ah.length H ρ ah.length (upd H (ρ i) w') := ⟨Nat.le_refl _, fun _ _ => rfl, fun i h1 h2 => by omega, fun b u h s => by
    rw [upd_ne]
    · exact h
    · rintro rfl
      rcases s with s | s
      · rw [hw] at h
        cases h
        exact hs s
      · exact s i hi rfl, fun b u h => by
    by_cases z : b = ρ i
    · exact ⟨w', by rw [z]; exact upd_same⟩
    · exact ⟨u, by rw [upd_ne z]; exact h⟩⟩
  rw [List.length_set]
  refine ⟨⟨fun j o' h => ?_, fun j k hj hk q => ?_⟩, e⟩
  · rw [List.length_set]
    by_cases hj : j = i
    · subst hj
      rw [List.getElem?_set_self hi] at h
      cases h
      exact ho e
    · rw [List.getElem?_set_ne (Ne.symm hj)] at h
      have hj' : j < ah.length := (List.getElem?_eq_some_iff.mp h).1
      refine (R.obj j o' h).keep e (upd_ne fun z => hj (R.inj j i hj' hi z))
  · rw [List.length_set] at hj hk
    exact R.inj j k hj hk q
end

/-! ### what a piece of code does -/
structure AX where
  cls : Str
  fs : List (Str × AV)
inductive Res (α : Type) where
  | no
  | ok (a : α) (ah : AH)
  | er (x : AX) (ah : AH)
abbrev CM (α : Type) := AH → Res α
abbrev AEnv := List (Option AV)
abbrev CE := AEnv → CM AV
abbrev CT := AEnv → CM Bool
abbrev CA := AEnv → CM (List AV)
inductive Out where
  | no
  | nx (e : AEnv) (ah : AH)
  | rt (x : AV) (ah : AH)
  | bk (e : AEnv) (ah : AH)
  | ct (e : AEnv) (ah : AH)
  | er (x : AX) (ah : AH)
abbrev CS := AEnv → AH → Out
def bind {α β : Type} (m : CM α) (f : α → CM β) : CM β := fun ah => match m ah with
  | .no => .no
  | .ok a ah1 => f a ah1
  | .er x ah1 => .er x ah1
def ret {α : Type} (a : α) : CM α := fun ah => .ok a ah
def no {α : Type} : CM α := fun _ => .no

/-- an exception leaves -/
def ErrOk (C : KC) (E : XK) (ρ : Nat → Addr) (n : Nat) (H : Hp) (x : AX) (ah : AH) : Prop :=
  ∀ ρ' H' a d ws, Ext ρ n H ρ' ah.length H' → Rep C ρ' ah H' → C.mg x.cls = some (.ref a) → H' d = some (.xd ws) → KVs C ρ' ah.length H' x.fs ws → E (.ref a) (some d) H'
def Aft (C : KC) (E : XK) (ρ : Nat → Addr) (n : Nat) (H : Hp) (r : Res AV) (Q : VK) : Prop := match r with
  | .no => False
  | .ok y ah => ∀ ρ' H' v, Ext ρ n H ρ' ah.length H' → Rep C ρ' ah H' → RV C ρ' ah.length H' y v → Q v H'
  | .er x ah => ErrOk C E ρ n H x ah
def AftT (C : KC) (E : XK) (ρ : Nat → Addr) (n : Nat) (H : Hp) (r : Res Bool) (Q : Bool → Hp → Prop) : Prop := match r with
  | .no => False
  | .ok b ah => ∀ ρ' H', Ext ρ n H ρ' ah.length H' → Rep C ρ' ah H' → Q b H'
  | .er x ah => ErrOk C E ρ n H x ah
def AftA (C : KC) (E : XK) (ρ : Nat → Addr) (n : Nat) (H : Hp) (r : Res (List AV)) (Q : List V → Hp → Prop) : Prop := match r with
  | .no => False
  | .ok ys ah => ∀ ρ' H' vs, Ext ρ n H ρ' ah.length H' → Rep C ρ' ah H' → RVs C ρ' ah.length H' ys vs → Q vs H'
  | .er x ah => ErrOk C E ρ n H x ah
def REnv (C : KC) (ρ : Nat → Addr) (n : Nat) (H : Hp) (env : AEnv) (σ : L2.St) : Prop :=
  env.length = σ.length ∧ ∀ (i : Nat) (x : AV), env[i]? = some (some x) → ∃ v, σ[i]? = some (some v) ∧ RV C ρ n H x v
def AftS (C : KC) (E : XK) (ρ : Nat → Addr) (n : Nat) (H : Hp) (r : Out) (D : Ends) : Prop := match r with
  | .no => False
  | .nx e ah => ∀ ρ' H' σ', Ext ρ n H ρ' ah.length H' → Rep C ρ' ah H' → REnv C ρ' ah.length H' e σ' → D.nx σ' H'
  | .bk e ah => ∀ ρ' H' σ', Ext ρ n H ρ' ah.length H' → Rep C ρ' ah H' → REnv C ρ' ah.length H' e σ' → D.bk σ' H'
  | .ct e ah => ∀ ρ' H' σ', Ext ρ n H ρ' ah.length H' → Rep C ρ' ah H' → REnv C ρ' ah.length H' e σ' → D.ct σ' H'
  | .rt y ah => ∀ ρ' H' v, Ext ρ n H ρ' ah.length H' → Rep C ρ' ah H' → RV C ρ' ah.length H' y v → D.rt v H'
  | .er x ah => ErrOk C E ρ n H x ah
/-- the readings -/
def tE (C : KC) (E : XK) (c : CE) : TE := fun σ H Q => ∃ ρ ah env, Rep C ρ ah H ∧ REnv C ρ ah.length H env σ ∧ Aft C E ρ ah.length H (c env ah) Q
def tT (C : KC) (E : XK) (c : CT) : TT := fun σ H Q => ∃ ρ ah env, Rep C ρ ah H ∧ REnv C ρ ah.length H env σ ∧ AftT C E ρ ah.length H (c env ah) Q
def tA (C : KC) (E : XK) (c : CA) : TA := fun σ H Q => ∃ ρ ah env, Rep C ρ ah H ∧ REnv C ρ ah.length H env σ ∧ AftA C E ρ ah.length H (c env ah) Q
def tS (C : KC) (E : XK) (c : CS) : TS := fun D σ H => ∃ ρ ah env, Rep C ρ ah H ∧ REnv C ρ ah.length H env σ ∧ AftS C E ρ ah.length H (c env ah) D
/-- a def's promise by its mirror -/
def spM (C : KC) (k : Nat) (f : List AV → CM AV) : Sp := fun vs H Q E => ∃ ρ ah xs, Rep C ρ ah H ∧ RVs C ρ ah.length H xs vs ∧ xs.length = k ∧ Aft C E ρ ah.length H (f xs ah) Q

section
variable {C : KC} {E : XK} {ρ ρ' : Nat → Addr} {n n' : Nat} {H H' : Hp} {ah ah' : AH} {x y : AV} {v u : V} {xs ys : List AV} {vs us : List V} {env : AEnv} {σ : L2.St}
theorem REnv.mono (e : Ext ρ n H ρ' n' H') (h : REnv C ρ n H env σ) : REnv C ρ' n' H' env σ := ⟨h.1, fun i x q => by
  obtain ⟨v, h1, h2⟩ := h.2 i x q
  exact ⟨v, h1, h2.mono e⟩⟩
theorem REnv.set (h : REnv C ρ n H env σ) (i : Nat) (r : RV C ρ n H x v) : REnv C ρ n H (env.set i (some x)) (σ.set i (some v)) := by
  refine ⟨by rw [List.length_set, List.length_set, h.1], fun j y q => ?_⟩
  by_cases hj : j = i
  · subst hj
    have hl : j < env.length := by
      have := (List.getElem?_eq_some_iff.mp q).1
      rwa [List.length_set] at this
    rw [List.getElem?_set_self hl] at q
    cases q
    exact ⟨v, List.getElem?_set_self (h.1 ▸ hl), r⟩
  · rw [List.getElem?_set_ne (Ne.symm hj)] at q
    obtain ⟨w, h1, h2⟩ := h.2 j y q
    exact ⟨w, by rw [List.getElem?_set_ne (Ne.symm hj)]; exact h1, h2⟩
theorem ErrOk.pre {x : AX} (e : Ext ρ n H ρ' n' H') (h : ErrOk C E ρ n H x ah) : ErrOk C E ρ' n' H' x ah := fun _ _ _ _ _ e2 => h _ _ _ _ _ (e.trans e2)
theorem Aft.pre {r : Res AV} {Q : VK} (e : Ext ρ n H ρ' n' H') (h : Aft C E ρ n H r Q) : Aft C E ρ' n' H' r Q := by
  cases r with
  | no => exact h
  | ok y ah => exact fun _ _ _ e2 => h _ _ _ (e.trans e2)
  | er x ah => exact ErrOk.pre e h
theorem AftT.pre {r : Res Bool} {Q : Bool → Hp → Prop} (e : Ext ρ n H ρ' n' H') (h : AftT C E ρ n H r Q) : AftT C E ρ' n' H' r Q := by
  cases r with
  | no => exact h
  | ok y ah => exact fun _ _ e2 => h _ _ (e.trans e2)
  | er x ah => exact ErrOk.pre e h
theorem AftA.pre {r : Res (List AV)} {Q : List V → Hp → Prop} (e : Ext ρ n H ρ' n' H') (h : AftA C E ρ n H r Q) : AftA C E ρ' n' H' r Q := by
  cases r with
  | no => exact h
  | ok y ah => exact fun _ _ _ e2 => h _ _ _ (e.trans e2)
  | er x ah => exact ErrOk.pre e h
theorem AftS.pre {r : Out} {D : Ends} (e : Ext ρ n H ρ' n' H') (h : AftS C E ρ n H r D) : AftS C E ρ' n' H' r D := by
  cases r with
  | no => exact h
  | nx y ah => exact fun _ _ _ e2 => h _ _ _ (e.trans e2)
  | bk y ah => exact fun _ _ _ e2 => h _ _ _ (e.trans e2)
  | ct y ah => exact fun _ _ _ e2 => h _ _ _ (e.trans e2)
  | rt y ah => exact fun _ _ _ e2 => h _ _ _ (e.trans e2)
  | er x ah => exact ErrOk.pre e h
end
end Sm

set_option Elab.async false
set_option linter.all false
set_option maxRecDepth 100000
set_option maxHeartbeats 4000000
namespace Sm
open PySem PySem.Spec PyProof.Rows L2

abbrev kc (X : Cx) : KC := ⟨X.K, X.mg⟩
section
variable {X : Cx} {E : XK}
theorem pe_imp {e : Expr} {t t' : TE} (h : PE X e t) (k : ∀ σ H Q, t' σ H Q → t σ H Q) : PE X e t' := ⟨fun pins s σ H Q I q => h.run pins s σ H Q I (k σ H Q q)⟩
theorem pt_imp {e : Expr} {t t' : TT} (h : PT X e t) (k : ∀ σ H Q, t' σ H Q → t σ H Q) : PT X e t' := ⟨fun pins s σ H Q I q => h.run pins s σ H Q I (k σ H Q q)⟩
theorem pw_imp {e : Expr} {t t' : TT} (h : PW X e t) (k : ∀ σ H Q, t' σ H Q → t σ H Q) : PW X e t' := ⟨fun wh pins s σ H Q I q => h.run wh pins s σ H Q I (k σ H Q q)⟩
theorem pa_imp {e : List Expr} {t t' : TA} (h : PA X e t) (k : ∀ σ H Q, t' σ H Q → t σ H Q) : PA X e t' := ⟨fun pos pins s σ H Q I q => h.run pos pins s σ H Q I (k σ H Q q)⟩
theorem ps_imp {e : Stmt} {t t' : TS} (h : PS X e t) (k : ∀ D σ H, t' D σ H → t D σ H) : PS X e t' := ⟨fun pins s σ H D I q => h.run pins s σ H D I (k D σ H q)⟩
theorem pss_imp {e : List Stmt} {t t' : TS} (h : PSs X e t) (k : ∀ D σ H, t' D σ H → t D σ H) : PSs X e t' := ⟨fun pins s σ H D I q => h.run pins s σ H D I (k D σ H q)⟩
end

section
variable {C : KC} {E : XK} {ρ : Nat → Addr} {H : Hp} {ah ah' : AH} {x y : AV} {v u : V} {Q : VK} {r : Res AV}
/-- the way through: a first part, then the rest -/
theorem Aft.cut {r : Res AV} {Q : VK} (h : Aft C E ρ ah.length H r Q) : Aft C E ρ ah.length H r Q := h
theorem Aft.here (R : Rep C ρ ah H) (q : Aft C E ρ ah.length H (.ok y ah) Q) (h : RV C ρ ah.length H y v) : Q v H := q ρ H v .refl R h
theorem AftT.here {b : Bool} {Q : Bool → Hp → Prop} (R : Rep C ρ ah H) (q : AftT C E ρ ah.length H (.ok b ah) Q) : Q b H := q ρ H .refl R
theorem AftA.here {ys : List AV} {vs : List V} {Q : List V → Hp → Prop} (R : Rep C ρ ah H) (q : AftA C E ρ ah.length H (.ok ys ah) Q) (h : RVs C ρ ah.length H ys vs) : Q vs H := q ρ H vs .refl R h
/-- a new object | tuple | changed object as the answer -/
theorem Aft.tup {xs : List AV} {vs : List V} (R : Rep C ρ ah H) (q : Aft C E ρ ah.length H (.ok (.tup xs) ah) Q) (r : RVs C ρ ah.length H xs vs) : ∀ p o, H p = none → o.cls = .type "tuple" → o.dict = none → Q (.ref p) (upd H p (.frz o (.tup vs))) := fun p o hp hc hd => by
  obtain ⟨R', e⟩ := R.grow (H' := upd H p (.frz o (.tup vs))) fun b w hb => by rw [upd_ne (ne_of_none hb hp)]; exact hb
  exact q ρ _ _ e R' (.tup (.inl ⟨o, upd_same, hc, hd⟩) (r.mono e))
/-- what is asked where a new tuple comes -/
abbrev NewT (H : Hp) (vs : List V) (Q : VK) : Prop := ∀ p o, H p = none → o.cls = .type "tuple" → o.dict = none → Q (.ref p) (upd H p (.frz o (.tup vs)))
theorem Aft.lst {xs : List AV} {vs : List V} (R : Rep C ρ ah H) (q : Aft C E ρ ah.length H (.ok (.obj ah.length) (ah ++ [.lst xs])) Q) (r : RVs C ρ ah.length H xs vs) : ∀ p, H p = none → Q (.ref p) (upd H p (.lst vs)) := fun p hp => by
  have k : ∀ b w, H b = some w → upd H p (.lst vs) b = some w := fun b w hb => by rw [upd_ne (ne_of_none hb hp)]; exact hb
  have e : Ext ρ ah.length H (rput ρ ah.length p) (ah.length + 1) (upd H p (.lst vs)) := .alloc k hp
  have hl : (ah ++ [AO.lst xs]).length = ah.length + 1 := by simp
  have R' := R.alloc (o := .lst xs) k hp ⟨vs, upd_same, r.mono e⟩
  refine q (rput ρ ah.length p) _ _ (by rw [hl]; exact e) R' ?_
  have z : RV C (rput ρ ah.length p) (ah ++ [AO.lst xs]).length (upd H p (.lst vs)) (.obj ah.length) (.ref (rput ρ ah.length p ah.length)) := .obj (by rw [hl]; exact Nat.lt_succ_self _)
  rw [rput_same] at z
  exact z
end

/-! ### names, constants -/
def cVar (i : Nat) : CE := fun env ah => match env[i]? with
  | some (some x) => .ok x ah
  | _ => .no
def cC (x : AV) : CE := fun _ ah => .ok x ah
section
variable {X : Cx} {E : XK} {pos : Pos}
theorem e_var (i : Nat) {x : Str} (hN : X.N[i]? = some x := by rfl) (hv : Vis X.env.scope x := by first | exact Or.inl rfl | exact Or.inr (Or.inl rfl) | exact Or.inr (Or.inr rfl)) (hd : (x == ("__debug__" : Str)) = false := by decide)
    (hcd : (x == ("__classdict__" : Str)) = false := by decide) : PE X (.Name x pos) (tE (kc X) E (cVar i)) := pe_imp (pe_var hN hv hd hcd) fun σ H Q ⟨ρ, ah, env, R, RE, q⟩ => by
  unfold cVar at q
  split at q
  · rename_i y h
    obtain ⟨v, h1, h2⟩ := RE.2 i y h
    exact ⟨v, h1, Aft.here R q h2⟩
  · exact q.elim
theorem e_c {e : Expr} {v : V} {x : AV} (h : PE X e (tC v)) (r : ∀ ρ n H, RV (kc X) ρ n H x v) : PE X e (tE (kc X) E (cC x)) := pe_imp h fun σ H Q ⟨ρ, ah, env, R, RE, q⟩ => Aft.here R q (r _ _ _)
theorem e_int {i : Int} {j} : PE X (.Constant (.int i) j pos) (tE (kc X) E (cC (.int i))) := e_c pe_int fun _ _ _ => .int i
theorem e_bl {b : Bool} {j} : PE X (.Constant (.bool b) j pos) (tE (kc X) E (cC (.bl b))) := e_c pe_bl fun _ _ _ => .bl b
theorem e_non {j} : PE X (.Constant .none j pos) (tE (kc X) E (cC .non)) := e_c pe_non fun _ _ _ => .non
theorem e_str {x : Str} {j} : PE X (.Constant (.str x) j pos) (tE (kc X) E (cC (.str x))) := e_c pe_str fun _ _ _ => .str x
/-- a def or a class of the module, as a value -/
theorem e_glo {x : Str} {a : Addr} (hg : Gl X x) (hm : X.mg x = some (.ref a)) (hd : (x == ("__debug__" : Str)) = false := by decide) : PE X (.Name x pos) (tE (kc X) E (cC (.glo x))) := e_c (pe_glob hg hm (v := .ref a) rfl hd) fun _ _ _ => .glo hm
/-- a builtin class -/
theorem e_ty {x : Str} {t : String} (hg : Gl X x) (hm : X.mg x = none) (hv : bootBuiltins x = some (.type t)) (hn : x ≠ "__name__" := by decide) (hd : (x == ("__debug__" : Str)) = false := by decide) : PE X (.Name x pos) (tE (kc X) E (cC (.ty t))) :=
  e_c (pe_bltn hg hm hv (v := .ty t) rfl hn hd) fun _ _ _ => .ty t
end

/-! ### operators by values -/
def OpS (C : KC) (E : XK) (r : R2) (f : AV → AV → CM AV) : Prop :=
  ∀ ρ ah H x y vx vy Q, Rep C ρ ah H → RV C ρ ah.length H x vx → RV C ρ ah.length H y vy → Aft C E ρ ah.length H (f x y ah) Q → r vx vy H Q
def cOp (f : AV → AV → CM AV) (a b : CE) : CE := fun env => bind (a env) fun x => bind (b env) fun y => f x y
section
variable {X : Cx} {E : XK} {pos : Pos} {a b : Expr} {ca cb : CE} {r : R2} {f : AV → AV → CM AV}
theorem op_cut (hf : OpS (kc X) E r f) {σ : L2.St} {H : Hp} {Q : VK} (q : tE (kc X) E (cOp f ca cb) σ H Q) : tOp r (tE (kc X) E ca) (tE (kc X) E cb) σ H Q := by
  obtain ⟨ρ, ah, env, R, RE, q⟩ := q
  refine ⟨ρ, ah, env, R, RE, ?_⟩
  unfold cOp bind at q
  cases ha : ca env ah with
  | no => rw [ha] at q; exact q
  | er x ah1 => rw [ha] at q; exact q
  | ok x ah1 =>
    rw [ha] at q
    intro ρ1 H1 vx e1 R1 rx
    refine ⟨ρ1, ah1, env, R1, RE.mono e1, ?_⟩
    have q := Aft.pre e1 q
    dsimp only at q
    cases hb : cb env ah1 with
    | no => rw [hb] at q; exact q
    | er x ah1 => rw [hb] at q; exact q
    | ok y ah2 =>
      rw [hb] at q
      intro ρ2 H2 vy e2 R2 ry
      exact hf ρ2 ah2 H2 x y vx vy Q R2 (rx.mono e2) ry (Aft.pre e2 q)
theorem e_op {op : Operator} (ho : OpR X (binaryOp op) r) (hf : OpS (kc X) E r f) (ha : PE X a (tE (kc X) E ca)) (hb : PE X b (tE (kc X) E cb)) : PE X (.BinOp a op b pos) (tE (kc X) E (cOp f ca cb)) :=
  pe_imp (pe_op ho ha hb) fun _ _ _ q => op_cut hf q
theorem e_cmp {op : CmpOp} (ho : OpR X (compareOp op) r) (hf : OpS (kc X) E r f) (ha : PE X a (tE (kc X) E ca)) (hb : PE X b (tE (kc X) E cb)) (hm : behindInMarks op b = false) : PE X (.Compare a [op] [b] pos) (tE (kc X) E (cOp f ca cb)) :=
  pe_imp (pe_cmpR ho ha hb hm) fun _ _ _ q => op_cut hf q
end
end Sm

set_option Elab.async false
set_option linter.all false
set_option maxRecDepth 100000
set_option maxHeartbeats 4000000
namespace Sm
open PySem PySem.Spec PyProof.Rows L2

/-! ### new tuples, told with their very objects (they have no dict of their own) -/
section
variable {X : Cx} {pins : List (Addr × Obj)} {σ : L2.St} {H : Hp} {s : Shared} {Q : VK}
theorem mk_tup {us : List Value} {vs : List V} {arr : Array Value} {k : Nat} (I : Inv X pins σ H s) (r : Vals vs us) (z : vs.length ≤ sizeLine) (ea : arr = us.toArray) (q : NewT H vs Q) :
    EP X pins σ Q (.ref s.heap.objs.size) { s with heap := s.heap.push { cls := .type "tuple", data := .seq arr }, toks := k } := by
  subst ea
  have g : (s.heap.push { cls := .type "tuple", data := .seq us.toArray }).get? s.heap.objs.size = some { cls := .type "tuple", data := .seq us.toArray } := Heap.get?_push_size _ rfl
  exact ⟨.ref _, _, I.laid (t' := k) (o := .frz { cls := .type "tuple", data := .seq us.toArray } (.tup vs)) (fun b w e => Heap.get?_push_of_some _ e) (Nat.le_refl _) ⟨g, z, us, r, _, g, rfl, _, rfl⟩, rfl, q _ _ (I.hok.fresh (Nat.le_refl _)) rfl rfl⟩
end
def tTupN (t : TA) : TE := fun σ H Q => t σ H fun xs H1 => xs.length ≤ sizeLine ∧ NewT H1 xs Q
theorem pe_tupN {X : Cx} {es : List Expr} {t : TA} {pos : Pos} {x1} (h : PA X es t) : PE X (.Tuple es x1 pos) (tTupN t) := ⟨fun pins s σ H Q I hq => by
  refine wpAny_Tuple_spliced (thn (h.run pos pins s σ H _ I hq) ?_)
  rintro us s1 ⟨xs, H1, I1, r, z, q⟩
  exact ⟨by rw [← r.length]; exact z, mk_tup (k := s1.toks) I1 r z rfl q⟩⟩
def rTupN (K : PySem.W.Frag) : List V → Hp → VK → Prop := fun xs H Q => ∃ p ys, xs = [V.ref p] ∧ ((SqL K H p ys ∧ NewT H ys Q) ∨ (SqT K H p ys ∧ Q (.ref p) H))
theorem cr_tupN {X : Cx} : CallR X (.type "tuple") (rTupN X.K) := by
  rintro pins s σ H xs us Q I r ⟨p, ys, rfl, h⟩
  obtain ⟨u, rfl, rx⟩ := vals1 r
  cases (show u = Value.ref p from rx)
  rcases h with ⟨hq, q⟩ | ⟨hq, q⟩
  · obtain ⟨its, r', pl, hz⟩ := I.list hq
    refine call_tuple_list pl.isList (fun h' kp => ?_) (by have := r'.length; simp only [List.size_toArray]; omega)
    exact mk_tup (s := { s with heap := h' }) (k := s.toks) (I.kept (t' := s.toks) kp) r' hz rfl q
  · obtain ⟨its, _, pl, _⟩ := I.tuple hq
    exact call_tuple_same pl ⟨.ref p, H, I, rfl, q⟩
def rCatN (K : PySem.W.Frag) : R2 := fun x y H Q => ∃ a b xs ys, x = .ref a ∧ y = .ref b ∧ SqT K H a xs ∧ SqT K H b ys ∧ xs ≠ [] ∧ xs.length + ys.length ≤ sizeLine ∧ (ys = [] → Q (.ref a) H) ∧ (ys ≠ [] → NewT H (xs ++ ys) Q)
theorem op_catN {X : Cx} : OpR X (binaryOp .Add) (rCatN X.K) := by
  rintro pins s σ H x y v u Q I rx ry ⟨a, b, xs, ys, rfl, rfl, ha, hb, hx, hz, q1, q2⟩
  cases (show v = Value.ref a from rx)
  cases (show u = Value.ref b from ry)
  obtain ⟨us, r1, p1, _⟩ := I.tuple ha
  obtain ⟨ws, r2, p2, _⟩ := I.tuple hb
  refine HT.cat_tup p1 p2 (fun z => hx (r1.nil_iff.mp z)) (fun z => ⟨.ref a, H, I, rfl, q1 (r2.nil_iff.mp z)⟩) (fun z => ?_) (by rw [← r1.length, ← r2.length]; exact hz)
  exact mk_tup (k := s.toks) I (r1.append r2) (by rw [List.length_append]; exact hz) (by simp) (q2 fun e => z (r2.nil_iff.mpr e))
def rSlN (K : PySem.W.Frag) : V → Option Int → Option Int → Hp → VK → Prop := fun x lo hi H Q => ∃ a xs, x = V.ref a ∧ SqT K H a xs ∧ ¬ (HT.sIx xs.length 0 lo = 0 ∧ HT.sIx xs.length xs.length hi = xs.length) ∧ NewT H (cutV xs lo hi) Q
theorem sl_tupN {X : Cx} : SlR X (rSlN X.K) := by
  rintro pins s σ H x v vl vu lo hi sl Q I rx hs pl pu ⟨a, xs, rfl, hx, hw, q⟩
  cases (show v = Value.ref a from rx)
  obtain ⟨us, r, ht, hz⟩ := I.tuple hx
  have e : us.toArray.size = xs.length := by rw [List.size_toArray]; exact r.length.symm
  refine ⟨"tuple", _, PyProof.Rows.slot_tuple_getitem.lookup, ht.typeIs, HT.getItem_tuple_cut ht hs pl pu (by rw [e]; exact hw) ?_ (by rw [e]; exact hz)⟩
  rw [e]
  exact mk_tup (k := s.toks) I ((r.drop _).take _) (Nat.le_trans (cutV_length xs lo hi) hz) (by simp) q
theorem mk_parts {X : Cx} {pins : List (Addr × Obj)} {σ : L2.St} {H : Hp} {s : Shared} {Q : VK} {a b c : Str} {t u v : Tok} {k : Nat} (I : Inv X pins σ H s) (h : NewT H [.str a, .str b, .str c] Q) :
    EP X pins σ Q (.ref s.heap.objs.size) { s with heap := s.heap.push { cls := .type "tuple", data := .seq [Value.str a t, .str b u, .str c v].toArray }, toks := k } := by
  have r : Vals [V.str a, V.str b, V.str c] [Value.str a t, Value.str b u, Value.str c v] := .cons ⟨t, rfl⟩ (.cons ⟨u, rfl⟩ (.cons ⟨v, rfl⟩ .nil))
  exact mk_tup I r (by show 3 ≤ sizeLine; rw [sizeLine_eq]; omega) rfl h
def rPartN : V → List V → Hp → VK → Prop := fun x xs H Q => ∃ a b, x = .str a ∧ xs = [.str b] ∧ (b.length == 0) = false ∧ a.length ≤ sizeLine ∧ NewT H [.str (Txt.partition a b).1, .str (Txt.partition a b).2.1, .str (Txt.partition a b).2.2] Q
theorem mt_partN {X : Cx} : MtR X "str.partition" rPartN := by
  rintro pins s σ H x xs v us Q I rx rs ⟨a, b, rfl, rfl, hb, hz, h⟩
  obtain ⟨t, rfl⟩ := rx
  obtain ⟨w, rfl, u, rfl⟩ := vals1 rs
  refine call_meets PySem.F.slot_str_partition (typeIs_str _ _ _) PySem.F.entry_str_partition (PySem.F.args_str_partition_2 _ _) (meets_str_partition a b t u hb hz) ?_
  unfold Txt.partition at h
  revert h
  cases Builtin.Str.occurrences a b 0 a.length 1 with
  | nil => exact fun h => mk_parts I h
  | cons i r => exact fun h => mk_parts I h
end Sm

set_option Elab.async false
set_option linter.all false
set_option maxRecDepth 100000
set_option maxHeartbeats 4000000
namespace Sm
open PySem PySem.Spec PyProof.Rows L2

/-! ### tests -/
def cTest (c : CE) : CT := fun env => bind (c env) fun x => match x with
  | .bl b => ret b
  | _ => no
def lstAt (ah : AH) (n : Nat) : Option (List AV) := match ah[n]? with
  | some (.lst xs) => some xs
  | some (.fls xs) => some xs
  | _ => none
def LIM : Nat := 10000000
def truOf (x : AV) (ah : AH) : Option Bool := match x with
  | .non => some false
  | .bl b => some b
  | .int i => some (i != 0)
  | .str s => if s.length ≤ LIM then some ((s.length : Int) != 0) else none
  | .tup xs => some (!xs.isEmpty)
  | .obj n => match ah[n]? with
    | some (.lst xs) => some (!xs.isEmpty)
    | some (.fls xs) => some (!xs.isEmpty)
    | some (.dct kvs) => some (!kvs.isEmpty)
    | _ => none
  | _ => none
def cTru (c : CE) : CT := fun env => bind (c env) fun x ah => match truOf x ah with
  | some b => .ok b ah
  | none => .no
def cNot (t : CT) : CT := fun env => bind (t env) fun b => ret (!b)
def cAnd (t u : CT) : CT := fun env => bind (t env) fun b => if b = true then u env else ret false
def cOr (t u : CT) : CT := fun env => bind (t env) fun b => if b = true then ret true else u env
theorem lim_line : LIM ≤ sizeLine := by rw [sizeLine_eq]; decide
section
variable {C : KC} {E : XK} {ρ ρ' : Nat → Addr} {H H' : Hp} {ah ah' : AH} {n : Nat} {xs : List AV}
/-- a list that may be read -/
theorem Rep.lst (R : Rep C ρ ah H) (h : lstAt ah n = some xs) : n < ah.length ∧ ∃ vs, SqL C.K H (ρ n) vs ∧ RVs C ρ ah.length H xs vs := by
  unfold lstAt at h
  split at h
  · rename_i ys e
    cases h
    obtain ⟨vs, h1, h2⟩ := R.obj n _ e
    exact ⟨(List.getElem?_eq_some_iff.mp e).1, vs, .inl (.inl h1), h2⟩
  · rename_i ys e
    cases h
    obtain ⟨o, vs, h1, h2⟩ := R.obj n _ e
    exact ⟨(List.getElem?_eq_some_iff.mp e).1, vs, .inl (.inr ⟨o, h1⟩), h2⟩
  · cases h
theorem RV.obj_inv {n i : Nat} {v : V} (h : RV C ρ n H (.obj i) v) : i < n ∧ v = .ref (ρ i) := by cases h; exact ⟨‹_›, rfl⟩
theorem RV.int_inv {n : Nat} {i : Int} {v : V} (h : RV C ρ n H (.int i) v) : v = .int i := by cases h; rfl
theorem RV.bl_inv {n : Nat} {i : Bool} {v : V} (h : RV C ρ n H (.bl i) v) : v = .bl i := by cases h; rfl
theorem RV.str_inv {n : Nat} {i : Str} {v : V} (h : RV C ρ n H (.str i) v) : v = .str i := by cases h; rfl
theorem RV.non_inv {n : Nat} {v : V} (h : RV C ρ n H .non v) : v = .non := by cases h; rfl
theorem RV.tup_invN {n : Nat} {xs : List AV} {v : V} (h : RV C ρ n H (.tup xs) v) : ∃ p vs, v = .ref p ∧ SqN C.K H p vs ∧ RVs C ρ n H xs vs := by cases h; exact ⟨_, _, rfl, ‹_›, ‹_›⟩
theorem RV.tup_inv {n : Nat} {xs : List AV} {v : V} (h : RV C ρ n H (.tup xs) v) : ∃ p vs, v = .ref p ∧ SqT C.K H p vs ∧ RVs C ρ n H xs vs := by
  obtain ⟨p, vs, e, h1, h2⟩ := h.tup_invN
  exact ⟨p, vs, e, h1.t, h2⟩
theorem RV.fl_inv {n : Nat} {xs : List Int} {v : V} (h : RV C ρ n H (.fl xs) v) : ∃ p, v = .ref p ∧ SqF C.K H p (xs.map V.int) := by cases h; exact ⟨_, rfl, ‹_›⟩
theorem RVs.empty {n : Nat} {xs : List AV} {vs : List V} (h : RVs C ρ n H xs vs) : xs.isEmpty = vs.isEmpty := by cases h <;> rfl
theorem tru_of (R : Rep C ρ ah H) {x : AV} {v : V} {b : Bool} (r : RV C ρ ah.length H x v) (h : truOf x ah = some b) : TruV C.K v H b := by
  cases x with
  | non => cases r.non_inv; cases h; exact rfl
  | bl b => cases r.bl_inv; cases h; exact rfl
  | int i => cases r.int_inv; cases h; exact rfl
  | str s =>
    cases r.str_inv
    unfold truOf at h
    dsimp only at h
    split at h
    · cases h
      exact ⟨Nat.le_trans ‹_› lim_line, rfl⟩
    · cases h
  | tup xs =>
    obtain ⟨p, vs, rfl, h1, h2⟩ := r.tup_inv
    cases h
    exact .inr (.inl ⟨vs, h1, by rw [h2.empty]⟩)
  | obj n =>
    obtain ⟨hn, rfl⟩ := r.obj_inv
    unfold truOf at h
    dsimp only at h
    split at h
    · rename_i xs e
      cases h
      obtain ⟨vs, h1, h2⟩ := R.obj n _ e
      exact .inl ⟨vs, .inl (.inl h1), by rw [h2.empty]⟩
    · rename_i xs e
      cases h
      obtain ⟨o, vs, h1, h2⟩ := R.obj n _ e
      exact .inl ⟨vs, .inl (.inr ⟨o, h1⟩), by rw [h2.empty]⟩
    · rename_i kvs e
      cases h
      obtain ⟨ws, h1, h2, _⟩ := R.obj n _ e
      refine .inr (.inr ⟨ws, h1, ?_⟩)
      cases kvs with
      | nil => cases ws with
        | nil => rfl
        | cons => cases h2
      | cons => cases ws with
        | nil => cases h2
        | cons => rfl
    · cases h
  | glo x => cases h
  | ty t => cases h
  | fl xs => cases h
end
section
variable {X : Cx} {E : XK} {pos : Pos} {e a b : Expr} {c ca cb : CE} {t u : CT} {rest : List Expr}
theorem test_cut {σ : L2.St} {H : Hp} {Q : Bool → Hp → Prop} (q : tT (kc X) E (cTest c) σ H Q) : tE (kc X) E c σ H fun x H' => ∃ k, x = .bl k ∧ Q k H' := by
  obtain ⟨ρ, ah, env, R, RE, q⟩ := q
  refine ⟨ρ, ah, env, R, RE, ?_⟩
  unfold cTest bind at q
  cases ha : c env ah with
  | no => rw [ha] at q; exact q
  | er x ah1 => rw [ha] at q; exact q
  | ok x ah1 =>
    rw [ha] at q
    intro ρ1 H1 v e1 R1 r
    dsimp only at q
    cases x with
    | bl k => exact ⟨k, r.bl_inv, q ρ1 H1 e1 R1⟩
    | _ => exact (show False from q).elim
theorem t_val (h : PE X e (tE (kc X) E c)) (he : ∀ whole, isTrue e X.env whole = (do let v ← whole; standAt e.pos; holding [v] (truthy v)) := by intro _; rfl) : PT X e (tT (kc X) E (cTest c)) :=
  pt_imp (pt_val h he) fun _ _ _ q => test_cut q
theorem t_cmp {op : CmpOp} {r : R2} {f : AV → AV → CM AV} (ho : OpR X (compareOp op) r) (hf : OpS (kc X) E r f) (ha : PE X a (tE (kc X) E ca)) (hb : PE X b (tE (kc X) E cb)) (hm : behindInMarks op b = false) : PT X (.Compare a [op] [b] pos) (tT (kc X) E (cTest (cOp f ca cb))) :=
  pt_imp (pt_cmpR ho ha hb hm) fun σ H Q q => by
    have z := op_cut hf (test_cut q)
    exact z
theorem t_tru (h : PE X e (tE (kc X) E c)) (he : ∀ whole, isTrue e X.env whole = (do let v ← whole; standAt e.pos; holding [v] (truthy v)) := by intro _; rfl) : PT X e (tT (kc X) E (cTru c)) :=
  pt_imp (pt_truth h he) fun σ H Q ⟨ρ, ah, env, R, RE, q⟩ => by
    refine ⟨ρ, ah, env, R, RE, ?_⟩
    unfold cTru bind at q
    cases ha : c env ah with
    | no => rw [ha] at q; exact q
    | er x ah1 => rw [ha] at q; exact q
    | ok x ah1 =>
      rw [ha] at q
      intro ρ1 H1 v e1 R1 r
      dsimp only at q
      cases hb : truOf x ah1 with
      | none => rw [hb] at q; exact (show False from q).elim
      | some b =>
        rw [hb] at q
        exact ⟨b, tru_of R1 r hb, q ρ1 H1 e1 R1⟩
theorem t_not (h : PT X a (tT (kc X) E t)) : PT X (.UnaryOp .Not a pos) (tT (kc X) E (cNot t)) := pt_imp (pt_not h) fun σ H Q ⟨ρ, ah, env, R, RE, q⟩ => by
  refine ⟨ρ, ah, env, R, RE, ?_⟩
  unfold cNot bind at q
  cases ha : t env ah with
  | no => rw [ha] at q; exact q
  | er x ah1 => rw [ha] at q; exact q
  | ok x ah1 => rw [ha] at q; exact q
theorem and_cut {σ : L2.St} {H : Hp} {Q : Bool → Hp → Prop} (q : tT (kc X) E (cAnd t u) σ H Q) : tAnd (tT (kc X) E t) (tT (kc X) E u) σ H Q := by
  obtain ⟨ρ, ah, env, R, RE, q⟩ := q
  refine ⟨ρ, ah, env, R, RE, ?_⟩
  unfold cAnd bind at q
  cases ha : t env ah with
  | no => rw [ha] at q; exact q
  | er x ah1 => rw [ha] at q; exact q
  | ok x ah1 =>
    rw [ha] at q
    intro ρ1 H1 e1 R1
    cases x with
    | true => exact ⟨ρ1, ah1, env, R1, RE.mono e1, AftT.pre e1 q⟩
    | false => exact q ρ1 H1 e1 R1
theorem or_cut {σ : L2.St} {H : Hp} {Q : Bool → Hp → Prop} (q : tT (kc X) E (cOr t u) σ H Q) : tOr (tT (kc X) E t) (tT (kc X) E u) σ H Q := by
  obtain ⟨ρ, ah, env, R, RE, q⟩ := q
  refine ⟨ρ, ah, env, R, RE, ?_⟩
  unfold cOr bind at q
  cases ha : t env ah with
  | no => rw [ha] at q; exact q
  | er x ah1 => rw [ha] at q; exact q
  | ok x ah1 =>
    rw [ha] at q
    intro ρ1 H1 e1 R1
    cases x with
    | false => exact ⟨ρ1, ah1, env, R1, RE.mono e1, AftT.pre e1 q⟩
    | true => exact q ρ1 H1 e1 R1
theorem w_and (ha : PT X a (tT (kc X) E t)) (hb : PW X (.BoolOp .And (b :: rest) pos) (tT (kc X) E u)) : PW X (.BoolOp .And (a :: b :: rest) pos) (tT (kc X) E (cAnd t u)) := pw_imp (pw_and ha hb) fun _ _ _ q => and_cut q
theorem w_or (ha : PT X a (tT (kc X) E t)) (hb : PW X (.BoolOp .Or (b :: rest) pos) (tT (kc X) E u)) : PW X (.BoolOp .Or (a :: b :: rest) pos) (tT (kc X) E (cOr t u)) := pw_imp (pw_or ha hb) fun _ _ _ q => or_cut q
/-- a test's answer as a value -/
def cBV (t : CT) : CE := fun env => bind (t env) fun b => ret (.bl b)
def cAndV (a b : CE) : CE := fun env => bind (a env) fun x => match x with
  | .bl true => b env
  | .bl false => ret (.bl false)
  | _ => no
def cOrV (a b : CE) : CE := fun env => bind (a env) fun x => match x with
  | .bl true => ret (.bl true)
  | .bl false => b env
  | _ => no
def cNotV (a : CE) : CE := fun env => bind (a env) fun x => match x with
  | .bl b => ret (.bl (!b))
  | _ => no
theorem e_and (ha : PE X a (tE (kc X) E ca)) (hb : PE X (.BoolOp .And (b :: rest) pos) (tE (kc X) E cb)) : PE X (.BoolOp .And (a :: b :: rest) pos) (tE (kc X) E (cAndV ca cb)) := pe_imp (pe_and ha hb) fun σ H Q ⟨ρ, ah, env, R, RE, q⟩ => by
  refine ⟨ρ, ah, env, R, RE, ?_⟩
  unfold cAndV bind at q
  cases ha : ca env ah with
  | no => rw [ha] at q; exact q
  | er x ah1 => rw [ha] at q; exact q
  | ok x ah1 =>
    rw [ha] at q
    intro ρ1 H1 v e1 R1 r
    cases x with
    | bl k =>
      refine ⟨k, r.bl_inv, ?_⟩
      cases k with
      | true => exact ⟨ρ1, ah1, env, R1, RE.mono e1, Aft.pre e1 q⟩
      | false => exact q ρ1 H1 _ e1 R1 (.bl false)
    | _ => exact (show False from q).elim
theorem e_or (ha : PE X a (tE (kc X) E ca)) (hb : PE X (.BoolOp .Or (b :: rest) pos) (tE (kc X) E cb)) : PE X (.BoolOp .Or (a :: b :: rest) pos) (tE (kc X) E (cOrV ca cb)) := pe_imp (pe_or ha hb) fun σ H Q ⟨ρ, ah, env, R, RE, q⟩ => by
  refine ⟨ρ, ah, env, R, RE, ?_⟩
  unfold cOrV bind at q
  cases ha : ca env ah with
  | no => rw [ha] at q; exact q
  | er x ah1 => rw [ha] at q; exact q
  | ok x ah1 =>
    rw [ha] at q
    intro ρ1 H1 v e1 R1 r
    cases x with
    | bl k =>
      refine ⟨k, r.bl_inv, ?_⟩
      cases k with
      | false => exact ⟨ρ1, ah1, env, R1, RE.mono e1, Aft.pre e1 q⟩
      | true => exact q ρ1 H1 _ e1 R1 (.bl true)
    | _ => exact (show False from q).elim
theorem e_not (ha : PE X a (tE (kc X) E ca)) : PE X (.UnaryOp .Not a pos) (tE (kc X) E (cNotV ca)) := pe_imp (pe_not ha) fun σ H Q ⟨ρ, ah, env, R, RE, q⟩ => by
  refine ⟨ρ, ah, env, R, RE, ?_⟩
  unfold cNotV bind at q
  cases ha : ca env ah with
  | no => rw [ha] at q; exact q
  | er x ah1 => rw [ha] at q; exact q
  | ok x ah1 =>
    rw [ha] at q
    intro ρ1 H1 v e1 R1 r
    cases x with
    | bl k => exact ⟨k, r.bl_inv, q ρ1 H1 _ e1 R1 (.bl _)⟩
    | _ => exact (show False from q).elim
def cIf (t : CT) (a b : CE) : CE := fun env => bind (t env) fun k => if k = true then a env else b env
theorem e_if {k : Expr} (hc : PT X k (tT (kc X) E t)) (ha : PE X a (tE (kc X) E ca)) (hb : PE X b (tE (kc X) E cb)) : PE X (.IfExp k a b pos) (tE (kc X) E (cIf t ca cb)) := pe_imp (pe_ifExp hc ha hb) fun σ H Q ⟨ρ, ah, env, R, RE, q⟩ => by
  refine ⟨ρ, ah, env, R, RE, ?_⟩
  unfold cIf bind at q
  cases ha : t env ah with
  | no => rw [ha] at q; exact q
  | er x ah1 => rw [ha] at q; exact q
  | ok x ah1 =>
    rw [ha] at q
    intro ρ1 H1 e1 R1
    cases x with
    | true => exact ⟨ρ1, ah1, env, R1, RE.mono e1, Aft.pre e1 q⟩
    | false => exact ⟨ρ1, ah1, env, R1, RE.mono e1, Aft.pre e1 q⟩
end

/-! ### statements -/
def cNext : CS := fun env ah => .nx env ah
def cSeq (a b : CS) : CS := fun env ah => match a env ah with
  | .nx e ah1 => b e ah1
  | r => r
def cRet (c : CE) : CS := fun env ah => match c env ah with
  | .no => .no
  | .ok x ah1 => .rt x ah1
  | .er x ah1 => .er x ah1
def cRetN : CS := fun _ ah => .rt .non ah
def cDrop (c : CE) : CS := fun env ah => match c env ah with
  | .no => .no
  | .ok _ ah1 => .nx env ah1
  | .er x ah1 => .er x ah1
def cWhen (t : CT) (a b : CS) : CS := fun env ah => match t env ah with
  | .no => .no
  | .ok k ah1 => if k = true then a env ah1 else b env ah1
  | .er x ah1 => .er x ah1
def cBk : CS := fun env ah => .bk env ah
def cCt : CS := fun env ah => .ct env ah
abbrev CG := AV → CS
def gNam (i : Nat) : CG := fun x env ah => .nx (env.set i (some x)) ah
def cAsg (c : CE) (g : CG) : CS := fun env ah => match c env ah with
  | .no => .no
  | .ok x ah1 => g x env ah1
  | .er x ah1 => .er x ah1
def tG (C : KC) (E : XK) (g : CG) : TG := fun v σ H Q => ∃ ρ ah env x, Rep C ρ ah H ∧ REnv C ρ ah.length H env σ ∧ RV C ρ ah.length H x v ∧ AftS C E ρ ah.length H (g x env ah) { nx := Q, rt := fun _ _ => False }
def cNever : CS := fun _ _ => .no
section
variable {X : Cx} {E : XK} {pos : Pos} {e : Expr} {c : CE} {t : CT} {st : Stmt} {rest bodya bodyb : List Stmt} {ca cb : CS} {g : CG}
theorem AftS.nxt {D D' : Ends} {C : KC} {ρ : Nat → Addr} {n : Nat} {H : Hp} {r : Out} (h : AftS C E ρ n H r D) (k1 : ∀ σ H, D.nx σ H → D'.nx σ H) (k2 : ∀ v H, D.rt v H → D'.rt v H) (k3 : ∀ σ H, D.bk σ H → D'.bk σ H) (k4 : ∀ σ H, D.ct σ H → D'.ct σ H) : AftS C E ρ n H r D' := by
  cases r with
  | no => exact h
  | nx y ah => exact fun _ _ _ a b c => k1 _ _ (h _ _ _ a b c)
  | bk y ah => exact fun _ _ _ a b c => k3 _ _ (h _ _ _ a b c)
  | ct y ah => exact fun _ _ _ a b c => k4 _ _ (h _ _ _ a b c)
  | rt y ah => exact fun _ _ _ a b c => k2 _ _ (h _ _ _ a b c)
  | er x ah => exact h
theorem s_nil : PSs X [] (tS (kc X) E cNext) := pss_imp pss_nil fun D σ H ⟨ρ, ah, env, R, RE, q⟩ => q ρ H σ .refl R RE
theorem seq_cut {D : Ends} {σ : L2.St} {H : Hp} (q : tS (kc X) E (cSeq ca cb) D σ H) : tSeq (tS (kc X) E ca) (tS (kc X) E cb) D σ H := by
  obtain ⟨ρ, ah, env, R, RE, q⟩ := q
  refine ⟨ρ, ah, env, R, RE, ?_⟩
  unfold cSeq at q
  cases ha : ca env ah with
  | nx e1 ah1 =>
    rw [ha] at q
    exact fun ρ1 H1 σ1 e1 R1 RE1 => ⟨ρ1, ah1, _, R1, RE1, AftS.pre e1 q⟩
  | _ => rw [ha] at q; exact q
theorem s_cons (h1 : PS X st (tS (kc X) E ca)) (h2 : PSs X rest (tS (kc X) E cb)) : PSs X (st :: rest) (tS (kc X) E (cSeq ca cb)) := pss_imp (pss_cons h1 h2) fun _ _ _ q => seq_cut q
theorem s_one (h1 : PS X st (tS (kc X) E ca)) : PSs X [st] (tS (kc X) E ca) := pss_one h1
theorem s_ret (h : PE X e (tE (kc X) E c)) : PS X (.Return (some e) pos) (tS (kc X) E (cRet c)) := ps_imp (ps_ret h) fun D σ H ⟨ρ, ah, env, R, RE, q⟩ => by
  refine ⟨ρ, ah, env, R, RE, ?_⟩
  unfold cRet at q
  cases ha : c env ah with
  | no => rw [ha] at q; exact q
  | er x ah1 => rw [ha] at q; exact q
  | ok x ah1 => rw [ha] at q; exact q
theorem s_retN : PS X (.Return none pos) (tS (kc X) E cRetN) := ps_imp ps_retN fun D σ H ⟨ρ, ah, env, R, RE, q⟩ => q ρ H .non .refl R .non
theorem s_expr (h : PE X e (tE (kc X) E c)) (hs : swapsWith e none pos.line X.env = pure false := by rfl) : PS X (.Expr e pos) (tS (kc X) E (cDrop c)) := ps_imp (ps_expr h hs) fun D σ H ⟨ρ, ah, env, R, RE, q⟩ => by
  refine ⟨ρ, ah, env, R, RE, ?_⟩
  unfold cDrop at q
  cases ha : c env ah with
  | no => rw [ha] at q; exact q
  | er x ah1 => rw [ha] at q; exact q
  | ok x ah1 =>
    rw [ha] at q
    exact fun ρ1 H1 v e1 R1 _ => q ρ1 H1 σ e1 R1 (RE.mono e1)
theorem s_if {k : Expr} (hc : PT X k (tT (kc X) E t)) (ha : PSs X bodya (tS (kc X) E ca)) (hb : PSs X bodyb (tS (kc X) E cb)) : PS X (.If k bodya bodyb pos) (tS (kc X) E (cWhen t ca cb)) := ps_imp (ps_if hc ha hb) fun D σ H ⟨ρ, ah, env, R, RE, q⟩ => by
  refine ⟨ρ, ah, env, R, RE, ?_⟩
  unfold cWhen at q
  cases ha : t env ah with
  | no => rw [ha] at q; exact q
  | er x ah1 => rw [ha] at q; exact q
  | ok x ah1 =>
    rw [ha] at q
    intro ρ1 H1 e1 R1
    cases x with
    | true => exact ⟨ρ1, ah1, env, R1, RE.mono e1, AftS.pre e1 q⟩
    | false => exact ⟨ρ1, ah1, env, R1, RE.mono e1, AftS.pre e1 q⟩
theorem s_pass : PS X (.Pass pos) (tS (kc X) E cNext) := ps_imp ps_pass fun D σ H ⟨ρ, ah, env, R, RE, q⟩ => q ρ H σ .refl R RE
theorem s_break : PS X (.Break pos) (tS (kc X) E cBk) := ps_imp ps_break fun D σ H ⟨ρ, ah, env, R, RE, q⟩ => q ρ H σ .refl R RE
theorem s_cont : PS X (.Continue pos) (tS (kc X) E cCt) := ps_imp ps_continue fun D σ H ⟨ρ, ah, env, R, RE, q⟩ => q ρ H σ .refl R RE
theorem s_never : PS X st (tS (kc X) E cNever) := ps_imp ps_never fun D σ H ⟨_, _, _, _, _, q⟩ => q
theorem pg_imp {tg : Expr} {t t' : TG} (h : PG X tg t) (k : ∀ v σ H Q, t' v σ H Q → t v σ H Q) : PG X tg t' := ⟨fun pins s σ H v u Q I r q => h.run pins s σ H v u Q I r (k v σ H Q q)⟩
theorem g_name {x : Str} (i : Nat) (hN : X.N.Nodup) (hi : X.N[i]? = some x := by rfl) (hx : Loc X.env.scope x := by first | exact Or.inl rfl | exact Or.inr rfl) (hf : X.fn x = true ∨ X.env.scope.names.lookup x = some .local := by first | exact .inl rfl | exact .inr rfl) : PG X (.Name x pos) (tG (kc X) E (gNam i)) :=
  pg_imp (pg_name hN hi hx hf) fun v σ H Q ⟨ρ, ah, env, x, R, RE, r, q⟩ => q ρ H _ .refl R (RE.set i r)
theorem asg_cut {D : Ends} {σ : L2.St} {H : Hp} (q : tS (kc X) E (cAsg c g) D σ H) (hg : ∀ x env ah, match g x env ah with | .nx _ _ => True | .er _ _ => True | .no => True | _ => False) : tAsg (tE (kc X) E c) (tG (kc X) E g) D σ H := by
  obtain ⟨ρ, ah, env, R, RE, q⟩ := q
  refine ⟨ρ, ah, env, R, RE, ?_⟩
  unfold cAsg at q
  cases ha : c env ah with
  | no => rw [ha] at q; exact q
  | er x ah1 => rw [ha] at q; exact q
  | ok x ah1 =>
    rw [ha] at q
    intro ρ1 H1 v e1 R1 r
    refine ⟨ρ1, ah1, env, x, R1, RE.mono e1, r, ?_⟩
    have q2 := AftS.pre e1 q
    dsimp only at q2
    have h := hg x env ah1
    cases hr : g x env ah1 with
    | no => rw [hr] at q2; exact q2
    | nx e2 ah2 => rw [hr] at q2; exact q2
    | er y ah2 => rw [hr] at q2; exact q2
    | rt y ah2 => rw [hr] at h; exact h.elim
    | bk y ah2 => rw [hr] at h; exact h.elim
    | ct y ah2 => rw [hr] at h; exact h.elim
/-- a target stores, or fails -/
def GOk (g : CG) : Prop := ∀ x env ah, match g x env ah with | .nx _ _ => True | .er _ _ => True | .no => True | _ => False
theorem gok_nam {i : Nat} : GOk (gNam i) := fun _ _ _ => trivial
theorem s_set {x : Str} {pos' : Pos} (i : Nat) (hN : X.N.Nodup) (h : PE X e (tE (kc X) E c)) (hi : X.N[i]? = some x := by rfl) (hx : Loc X.env.scope x := by first | exact Or.inl rfl | exact Or.inr rfl) (hs : swapsWith e (some (.Name x pos')) pos.line X.env = pure false := by rfl)
    (hf : X.fn x = true ∨ X.env.scope.names.lookup x = some .local := by first | exact .inl rfl | exact .inr rfl) : PS X (.Assign [.Name x pos'] e pos) (tS (kc X) E (cAsg c (gNam i))) :=
  ps_imp (ps_set hN hi hx h hs hf) fun D σ H ⟨ρ, ah, env, R, RE, q⟩ => by
    refine ⟨ρ, ah, env, R, RE, ?_⟩
    unfold cAsg at q
    cases ha : c env ah with
    | no => rw [ha] at q; exact q
    | er x ah1 => rw [ha] at q; exact q
    | ok x ah1 =>
      rw [ha] at q
      exact fun ρ1 H1 v e1 R1 r => q ρ1 H1 _ e1 R1 ((RE.mono e1).set i r)
theorem s_asg {tg : Expr} (h : PE X e (tE (kc X) E c)) (hg : PG X tg (tG (kc X) E g)) (ok : GOk g) (hs : swapsWithSole [tg] e pos.line X.env = pure false := by rfl) (hw : swappedStores [tg] e X.env = pure none := by rfl)
    (h1 : (assignEach [tg] X.env).map (·.2) = [assign tg X.env] := by rfl) : PS X (.Assign [tg] e pos) (tS (kc X) E (cAsg c g)) := ps_imp (ps_asg h hg hs hw h1) fun D σ H q => asg_cut q ok
end
end Sm

set_option Elab.async false
set_option linter.all false
set_option maxRecDepth 100000
set_option maxHeartbeats 4000000
namespace Sm
open PySem PySem.Spec PyProof.Rows L2

/-! ### while -/
def FUEL : Nat := 100000
def whileL (t : CT) (b : CS) : Nat → CS
  | 0 => fun _ _ => .no
  | f + 1 => fun env ah => match t env ah with
    | .no => .no
    | .er x ah1 => .er x ah1
    | .ok false ah1 => .nx env ah1
    | .ok true ah1 => match b env ah1 with
      | .nx e2 ah2 => whileL t b f e2 ah2
      | .ct e2 ah2 => whileL t b f e2 ah2
      | .bk e2 ah2 => .nx e2 ah2
      | .rt y ah2 => .rt y ah2
      | .er y ah2 => .er y ah2
      | .no => .no
def cWhile (t : CT) (b : CS) : CS := whileL t b FUEL
section
variable {X : Cx} {E : XK} {pos : Pos} {k : Expr} {t : CT} {b : CS} {body : List Stmt}
theorem s_while (hp : PassesOwn (model X.prog X.w) X.A X.env X.xe) (hc : PT X k (tT (kc X) E t)) (hb : PSs X body (tS (kc X) E b)) : PS X (.While k body [] pos) (tS (kc X) E (cWhile t b)) := ps_imp (ps_while hp hc hb) fun D σ H ⟨ρ, ah, env, R, RE, q⟩ => by
  refine ⟨fun m σ' H' => ∃ ρ' ah' env', Rep (kc X) ρ' ah' H' ∧ REnv (kc X) ρ' ah'.length H' env' σ' ∧ AftS (kc X) E ρ' ah'.length H' (whileL t b m env' ah') D, ⟨FUEL, ρ, ah, env, R, RE, q⟩, ?_⟩
  rintro m σ' H' ⟨ρ', ah', env', R', RE', q⟩
  refine ⟨ρ', ah', env', R', RE', ?_⟩
  cases m with
  | zero => exact (show False from q).elim
  | succ f =>
    unfold whileL at q
    cases ha : t env' ah' with
    | no => rw [ha] at q; exact q
    | er x ah1 => rw [ha] at q; exact q
    | ok x ah1 =>
      rw [ha] at q
      intro ρ1 H1 e1 R1
      have q := AftS.pre e1 q
      cases x with
      | false => exact q ρ1 H1 _ .refl R1 (RE'.mono e1)
      | true =>
        refine ⟨fun σ2 H2 => ∃ ρ' ah' env', Rep (kc X) ρ' ah' H2 ∧ REnv (kc X) ρ' ah'.length H2 env' σ2 ∧ AftS (kc X) E ρ' ah'.length H2 (whileL t b f env' ah') D, fun σ2 H2 h => ⟨f, Nat.lt_succ_self f, h⟩, ρ1, ah1, env', R1, RE'.mono e1, ?_⟩
        dsimp only at q
        cases hb : b env' ah1 with
        | no => rw [hb] at q; exact q
        | er y ah2 => rw [hb] at q; exact q
        | rt y ah2 => rw [hb] at q; exact q
        | bk e2 ah2 => rw [hb] at q; exact q
        | nx e2 ah2 =>
          rw [hb] at q
          exact fun ρ2 H2 σ2 e3 R2 RE2 => ⟨ρ2, ah2, e2, R2, RE2, AftS.pre e3 q⟩
        | ct e2 ah2 =>
          rw [hb] at q
          exact fun ρ2 H2 σ2 e3 R2 RE2 => ⟨ρ2, ah2, e2, R2, RE2, AftS.pre e3 q⟩
end

/-! ### what is walked -/
inductive IR where
  | no | stop | yld (x : AV)
abbrev CI := AH → Nat → IR
def ITS (C : KC) (ρ0 : Nat → Addr) (n0 : Nat) (H0 : Hp) (J : It) (ci : CI) : Prop := ∀ ρ ah H i, ExtW ρ0 n0 H0 ρ ah.length H → Rep C ρ ah H →
  (ci ah i = .stop → J.stop i H) ∧ ∀ x, ci ah i = .yld x → J.go i H ∧ ∀ v H', J.yld i H v H' → Ext ρ ah.length H ρ ah.length H' ∧ Rep C ρ ah H' ∧ RV C ρ ah.length H' x v
abbrev CIE := AEnv → CM CI
def tI (C : KC) (E : XK) (c : CIE) : TI := fun σ H R => ∃ ρ ah env, Rep C ρ ah H ∧ REnv C ρ ah.length H env σ ∧ match c env ah with
  | .no => False
  | .er x ah1 => ErrOk C E ρ ah.length H x ah1
  | .ok ci ah1 => ∀ ρ' H' J, Ext ρ ah.length H ρ' ah1.length H' → Rep C ρ' ah1 H' → ITS C ρ' ah1.length H' J ci → R J H'
def liL (n : Nat) : CI := fun ah i => match lstAt ah n with
  | none => .no
  | some xs => match xs[i]? with
    | none => .stop
    | some x => .yld x
def liT (xs : List AV) : CI := fun _ i => match xs[i]? with
  | none => .stop
  | some x => .yld x
def liR (lo : Int) (n : Nat) : CI := fun _ i => if i < n then .yld (.int (lo + i)) else .stop
theorem SqT.same {K : PySem.W.Frag} {H : Hp} {a : Addr} {xs ys : List V} (h : L2.SqT K H a xs) (h' : L2.SqT K H a ys) : True := trivial
section
variable {C : KC} {E : XK} {ρ : Nat → Addr} {H : Hp} {ah : AH} {n : Nat}
theorem its_lst (hn : n < ah.length) : ITS C ρ ah.length H (Itl C.K (ρ n)) (liL n) := by
  intro ρ' ah' H' i e R
  have ea := e.ag n hn
  refine ⟨fun h => ?_, fun x h => ?_⟩
  · unfold liL at h
    split at h
    · cases h
    · rename_i xs hx
      split at h
      · rename_i hi
        obtain ⟨_, vs, hs, r⟩ := R.lst hx
        rw [ea] at hs
        refine ⟨vs, hs, ?_⟩
        rw [← r.length]
        exact List.getElem?_eq_none_iff.mp hi
      · cases h
  · unfold liL at h
    split at h
    · cases h
    · rename_i xs hx
      split at h
      · cases h
      · rename_i y hi
        cases h
        obtain ⟨_, vs, hs, r⟩ := R.lst hx
        rw [ea] at hs
        obtain ⟨v, hv, rv⟩ := r.get hi
        refine ⟨⟨vs, v, hs, hv⟩, fun w H2 hw => ?_⟩
        obtain ⟨rfl, hw⟩ := hw
        have := hw vs hs
        rw [hv] at this
        cases this
        exact ⟨.refl, R, rv⟩
theorem its_tup {p : Addr} {xs : List AV} {vs : List V} (hs : SqT C.K H p vs) (r : RVs C ρ n H xs vs) : ITS C ρ n H (Itt C.K p) (liT xs) := by
  intro ρ' ah' H' i e R
  have hs' := e.sqT hs
  have r' := r.monoW e
  refine ⟨fun h => ?_, fun x h => ?_⟩
  · unfold liT at h
    split at h
    · rename_i hi
      refine ⟨vs, hs', ?_⟩
      rw [← r.length]
      exact List.getElem?_eq_none_iff.mp hi
    · cases h
  · unfold liT at h
    split at h
    · cases h
    · rename_i y hi
      cases h
      obtain ⟨v, hv, rv⟩ := r'.get hi
      refine ⟨⟨vs, v, hs', hv⟩, fun w H2 hw => ?_⟩
      obtain ⟨rfl, hw⟩ := hw
      have := hw vs hs'
      rw [hv] at this
      cases this
      exact ⟨.refl, R, rv⟩
theorem its_rng {lo : Int} {k : Nat} : ITS C ρ n H (Itr lo k) (liR lo k) := by
  intro ρ' ah' H' i e R
  refine ⟨fun h => ?_, fun x h => ?_⟩
  · unfold liR at h
    split at h
    · cases h
    · exact Nat.le_of_not_lt ‹_›
  · unfold liR at h
    split at h
    · cases h
      refine ⟨‹_›, fun w H2 hw => ?_⟩
      obtain ⟨rfl, rfl⟩ := hw
      exact ⟨.refl, R, .int _⟩
    · cases h
end
def iLst (c : CE) : CIE := fun env => bind (c env) fun x ah => match x with
  | .obj n => match lstAt ah n with
    | none => .no
    | some _ => .ok (liL n) ah
  | _ => .no
def iTupC (c : CE) : CIE := fun env => bind (c env) fun x ah => match x with
  | .tup xs => .ok (liT xs) ah
  | _ => .no
section
variable {X : Cx} {E : XK} {pos : Pos} {tg e : Expr} {c : CE}
theorem pi_imp {t t' : TI} (h : PI X tg e t) (k : ∀ σ H R, t' σ H R → t σ H R) : PI X tg e t' := ⟨fun pins s σ H R I q => h.run pins s σ H R I (k σ H R q)⟩
theorem i_lst (h : PE X e (tE (kc X) E c)) : PI X tg e (tI (kc X) E (iLst c)) := pi_imp (pi_list h) fun σ H R ⟨ρ, ah, env, Rp, RE, q⟩ => by
  refine ⟨ρ, ah, env, Rp, RE, ?_⟩
  unfold iLst bind at q
  cases ha : c env ah with
  | no => rw [ha] at q; exact q
  | er x ah1 => rw [ha] at q; exact q
  | ok x ah1 =>
    rw [ha] at q
    intro ρ1 H1 v e1 R1 r
    cases x with
    | obj n =>
      dsimp only at q
      obtain ⟨hn, rfl⟩ := r.obj_inv
      cases hl : lstAt ah1 n with
      | none => rw [hl] at q; exact (show False from q).elim
      | some xs =>
        rw [hl] at q
        obtain ⟨_, vs, hs, _⟩ := R1.lst hl
        exact ⟨ρ1 n, rfl, ⟨vs, hs⟩, q ρ1 H1 _ e1 R1 (its_lst hn)⟩
    | _ => exact (show False from q).elim
theorem i_tup (h : PE X e (tE (kc X) E c)) : PI X tg e (tI (kc X) E (iTupC c)) := pi_imp (pi_tup h) fun σ H R ⟨ρ, ah, env, Rp, RE, q⟩ => by
  refine ⟨ρ, ah, env, Rp, RE, ?_⟩
  unfold iTupC bind at q
  cases ha : c env ah with
  | no => rw [ha] at q; exact q
  | er x ah1 => rw [ha] at q; exact q
  | ok x ah1 =>
    rw [ha] at q
    intro ρ1 H1 v e1 R1 r
    cases x with
    | tup xs =>
      dsimp only at q
      obtain ⟨p, vs, rfl, hs, rs⟩ := r.tup_inv
      exact ⟨p, rfl, ⟨vs, hs⟩, q ρ1 H1 _ e1 R1 (its_tup hs rs)⟩
    | _ => exact (show False from q).elim
end

/-! ### for -/
def forL (ci : CI) (g : CG) (b : CS) : Nat → Nat → CS
  | 0, _ => fun _ _ => .no
  | f + 1, i => fun env ah => match ci ah i with
    | .no => .no
    | .stop => .nx env ah
    | .yld x => match g x env ah with
      | .nx e1 ah1 => match b e1 ah1 with
        | .nx e2 ah2 => forL ci g b f (i + 1) e2 ah2
        | .ct e2 ah2 => forL ci g b f (i + 1) e2 ah2
        | .bk e2 ah2 => .nx e2 ah2
        | .rt y ah2 => .rt y ah2
        | .er y ah2 => .er y ah2
        | .no => .no
      | .er y ah1 => .er y ah1
      | _ => .no
def cFor (it : CIE) (g : CG) (b : CS) : CS := fun env ah => match it env ah with
  | .no => .no
  | .er x ah1 => .er x ah1
  | .ok ci ah1 => forL ci g b FUEL 0 env ah1
section
variable {X : Cx} {E : XK} {pos : Pos} {tg iter : Expr} {it : CIE} {g : CG} {b : CS} {body : List Stmt}
theorem s_for (hp : PassesOwn (model X.prog X.w) X.A X.env X.xe) (hc : X.calm = true) (hi : PI X tg iter (tI (kc X) E it)) (hg : PG X tg (tG (kc X) E g)) (hb : PSs X body (tS (kc X) E b))
    (hs : ∀ x, foldedSetIterable iter X.env x = pure x := by intro _; rfl) : PS X (.For tg iter body [] pos) (tS (kc X) E (cFor it g b)) := ps_imp (ps_for hp hc hi hg hb hs) fun D σ H ⟨ρ, ah, env, R, RE, q⟩ => by
  refine ⟨ρ, ah, env, R, RE, ?_⟩
  unfold cFor at q
  cases ha : it env ah with
  | no => rw [ha] at q; exact q
  | er x ah1 => rw [ha] at q; exact q
  | ok ci ah1 =>
    rw [ha] at q
    intro ρ1 H1 J e1 R1 its
    have q := AftS.pre e1 q
    let W : Nat → Nat → L2.St → Hp → Prop := fun i m σ' H' => ∃ ρ' ah' env', Ext ρ1 ah1.length H1 ρ' ah'.length H' ∧ Rep (kc X) ρ' ah' H' ∧ REnv (kc X) ρ' ah'.length H' env' σ' ∧ AftS (kc X) E ρ' ah'.length H' (forL ci g b m i env' ah') D
    refine ⟨W, ⟨FUEL, ρ1, ah1, env, .refl, R1, RE.mono e1, q⟩, ?_⟩
    rintro i m σ' H' ⟨ρ', ah', env', e2, R', RE', q⟩
    cases m with
    | zero => exact (show False from q).elim
    | succ f =>
      unfold forL at q
      obtain ⟨i1, i2⟩ := its ρ' ah' H' i e2.w R'
      cases hx : ci ah' i with
      | no => rw [hx] at q; exact (show False from q).elim
      | stop =>
        rw [hx] at q
        exact .inl ⟨i1 hx, q ρ' H' _ .refl R' RE'⟩
      | yld x =>
        rw [hx] at q
        obtain ⟨go, y⟩ := i2 x hx
        refine .inr ⟨go, fun σ2 H2 => W (i + 1) f σ2 H2, fun σ2 H2 h => ⟨f, Nat.lt_succ_self f, h⟩, fun v H2 hv => ?_⟩
        obtain ⟨e3, R2, rv⟩ := y v H2 hv
        refine ⟨ρ', ah', env', x, R2, RE'.mono e3, rv, ?_⟩
        have q := AftS.pre e3 q
        dsimp only at q
        cases hgx : g x env' ah' with
        | no => rw [hgx] at q; exact (show False from q).elim
        | er y ah2 => rw [hgx] at q; exact q
        | rt y ah2 => rw [hgx] at q; exact (show False from q).elim
        | bk y ah2 => rw [hgx] at q; exact (show False from q).elim
        | ct y ah2 => rw [hgx] at q; exact (show False from q).elim
        | nx en ah2 =>
          rw [hgx] at q
          intro ρ3 H3 σ3 e4 R3 RE3
          refine ⟨ρ3, ah2, en, R3, RE3, ?_⟩
          have e5 := e2.trans (e3.trans e4)
          have q := AftS.pre e4 q
          dsimp only at q
          cases hbx : b en ah2 with
          | no => rw [hbx] at q; exact q
          | er y ah3 => rw [hbx] at q; exact q
          | rt y ah3 => rw [hbx] at q; exact q
          | bk e2 ah3 => rw [hbx] at q; exact q
          | nx en2 ah3 =>
            rw [hbx] at q
            exact fun ρ4 H4 σ4 e6 R4 RE4 => ⟨ρ4, ah3, en2, e5.trans e6, R4, RE4, AftS.pre e6 q⟩
          | ct en2 ah3 =>
            rw [hbx] at q
            exact fun ρ4 H4 σ4 e6 R4 RE4 => ⟨ρ4, ah3, en2, e5.trans e6, R4, RE4, AftS.pre e6 q⟩
end

/-! ### list comprehensions: the new list is put aside till it is whole -/
def wipeE (env : AEnv) : List Nat → AEnv
  | [] => env
  | i :: r => wipeE (env.set i none) r
def lcL (ci : CI) (g : CG) (t : CT) (c : CE) (env : AEnv) : Nat → Nat → List AV → CM AV
  | 0, _, _ => fun _ => .no
  | f + 1, i, acc => fun ah => match ci ah i with
    | .no => .no
    | .stop => .ok (.obj ah.length) (ah ++ [.lst acc])
    | .yld x => match g x env ah with
      | .nx e1 ah1 => match t e1 ah1 with
        | .ok true ah2 => match c e1 ah2 with
          | .ok y ah3 => lcL ci g t c env f (i + 1) (acc ++ [y]) ah3
          | _ => .no
        | .ok false ah2 => lcL ci g t c env f (i + 1) acc ah2
        | _ => .no
      | _ => .no
def cLc (it : CIE) (g : CG) (t : CT) (c : CE) (vs : List Nat) : CE := fun env ah => match it env ah with
  | .no => .no
  | .er x ah1 => .er x ah1
  | .ok ci ah1 => lcL ci g t c (wipeE env vs) FUEL 0 [] ah1
def cYes : CT := fun _ ah => .ok true ah
end Sm

set_option Elab.async false
set_option linter.all false
set_option maxRecDepth 100000
set_option maxHeartbeats 4000000
namespace Sm
open PySem PySem.Spec PyProof.Rows L2

/-! ### targets that store in some slots alone -/
def Outs (S : List Nat) (σ σ' : L2.St) : Prop := σ'.length = σ.length ∧ ∀ i, i ∉ S → σ'[i]? = σ[i]?
theorem Outs.refl {S : List Nat} {σ : L2.St} : Outs S σ σ := ⟨rfl, fun _ _ => rfl⟩
theorem Outs.trans {S : List Nat} {σ σ1 σ2 : L2.St} (a : Outs S σ σ1) (b : Outs S σ1 σ2) : Outs S σ σ2 := ⟨b.1.trans a.1, fun i h => (b.2 i h).trans (a.2 i h)⟩
theorem wipe_at (σ : L2.St) (i : Nat) : ∀ vs : List Nat, (wipe σ vs)[i]? = if i ∈ vs then (if i < σ.length then some none else none) else σ[i]?
  | [] => by simp [wipe]
  | j :: r => by
    show ((wipe σ r).set j none)[i]? = _
    by_cases e : j = i
    · subst e
      by_cases l : j < σ.length
      · rw [List.getElem?_set_self (by rw [wipe_length]; exact l)]
        simp [l]
      · rw [List.getElem?_eq_none (by rw [List.length_set, wipe_length]; omega)]
        simp [l]
    · rw [List.getElem?_set_ne e, wipe_at σ i r]
      simp [Ne.symm e]
theorem wipe_outs {σ σ2 : L2.St} {vs : List Nat} (h : Outs vs (wipe σ vs) σ2) : wipe σ2 vs = wipe σ vs := by
  apply List.ext_getElem?
  intro i
  rw [wipe_at]
  have hl : σ2.length = σ.length := by rw [h.1, wipe_length]
  by_cases m : i ∈ vs
  · rw [wipe_at, if_pos m, if_pos m, hl]
  · rw [if_neg m, h.2 i m]
theorem wipeE_at (env : AEnv) (i : Nat) : ∀ vs : List Nat, (wipeE env vs)[i]? = if i ∈ vs then (if i < env.length then some none else none) else env[i]? := by
  intro vs
  induction vs generalizing env with
  | nil => simp [wipeE]
  | cons j r ih =>
    show (wipeE (env.set j none) r)[i]? = _
    rw [ih]
    by_cases h : i ∈ r
    · simp [h]
    · by_cases e : i = j
      · subst e
        by_cases l : i < env.length
        · simp [h, l]
        · simp [h, l]
      · simp [h, e, List.getElem?_set_ne (Ne.symm e)]
theorem wipeE_length (env : AEnv) : ∀ vs : List Nat, (wipeE env vs).length = env.length := by
  intro vs
  induction vs generalizing env with
  | nil => rfl
  | cons j r ih => show (wipeE (env.set j none) r).length = _; rw [ih, List.length_set]
theorem REnv.wipe {C : KC} {ρ : Nat → Addr} {n : Nat} {H : Hp} {env : AEnv} {σ : L2.St} (h : REnv C ρ n H env σ) (vs : List Nat) : REnv C ρ n H (wipeE env vs) (L2.wipe σ vs) := by
  refine ⟨by rw [wipeE_length, wipe_length, h.1], fun i x q => ?_⟩
  rw [wipeE_at] at q
  by_cases m : i ∈ vs
  · rw [if_pos m] at q
    split at q <;> cases q
  · rw [if_neg m] at q
    obtain ⟨v, h1, h2⟩ := h.2 i x q
    exact ⟨v, by rw [wipe_at, if_neg m]; exact h1, h2⟩
def EndG (S : List Nat) (σ : L2.St) (Q : L2.St → Hp → Prop) : Ends := { nx := fun σ' H' => Outs S σ σ' → Q σ' H', rt := fun _ _ => False }
def tGs (C : KC) (E : XK) (g : CG) (S : List Nat) : TG := fun v σ H Q => ∃ ρ ah env x, Rep C ρ ah H ∧ REnv C ρ ah.length H env σ ∧ RV C ρ ah.length H x v ∧ AftS C E ρ ah.length H (g x env ah) (EndG S σ Q)
abbrev CGs := List AV → CS
def tGss (C : KC) (E : XK) (g : CGs) (S : List Nat) : TGs := fun vs σ H Q => ∃ ρ ah env xs, Rep C ρ ah H ∧ REnv C ρ ah.length H env σ ∧ RVs C ρ ah.length H xs vs ∧ AftS C E ρ ah.length H (g xs env ah) (EndG S σ Q)
def gsNil : CGs := fun xs env ah => match xs with
  | [] => .nx env ah
  | _ => .no
def gsCons (g : CG) (gs : CGs) : CGs := fun xs env ah => match xs with
  | x :: r => match g x env ah with
    | .nx e ah1 => gs r e ah1
    | .er y ah1 => .er y ah1
    | _ => .no
  | [] => .no
def gTupM (n : Nat) (gs : CGs) : CG := fun x env ah => match x with
  | .tup xs => if xs.length = n then gs xs env ah else .no
  | _ => .no
section
variable {X : Cx} {E : XK} {pos : Pos} {tg : Expr} {es : List Expr} {g : CG} {gs : CGs} {S : List Nat}
theorem pgs_imp {t t' : TGs} (h : PGs X es t) (k : ∀ v σ H Q, t' v σ H Q → t v σ H Q) : PGs X es t' := ⟨fun pins s σ H v u Q I r q => h.run pins s σ H v u Q I r (k v σ H Q q)⟩
theorem h_name {x : Str} (i : Nat) (hS : i ∈ S) (hN : X.N.Nodup) (hi : X.N[i]? = some x := by rfl) (hx : Loc X.env.scope x := by first | exact Or.inl rfl | exact Or.inr rfl) (hf : X.fn x = true ∨ X.env.scope.names.lookup x = some .local := by first | exact .inl rfl | exact .inr rfl) : PG X (.Name x pos) (tGs (kc X) E (gNam i) S) :=
  pg_imp (pg_name hN hi hx hf) fun v σ H Q ⟨ρ, ah, env, x, R, RE, r, q⟩ => q ρ H _ .refl R (RE.set i r) ⟨List.length_set, fun j hj => List.getElem?_set_ne (fun e => hj (by rw [← e]; exact hS))⟩
theorem h_nil : PGs X [] (tGss (kc X) E gsNil S) := pgs_imp pgs_nil fun v σ H Q ⟨ρ, ah, env, xs, R, RE, r, q⟩ => by
  cases r with
  | nil => exact ⟨rfl, q ρ H σ .refl R RE .refl⟩
  | cons => exact (show False from q).elim
theorem h_cons (h1 : PG X tg (tGs (kc X) E g S)) (h2 : PGs X es (tGss (kc X) E gs S)) (hs : (assignEach (tg :: es) X.env).map (·.2) = assign tg X.env :: (assignEach es X.env).map (·.2) := by rfl) : PGs X (tg :: es) (tGss (kc X) E (gsCons g gs) S) := pgs_imp (pgs_cons h1 h2 hs) fun v σ H Q ⟨ρ, ah, env, xs, R, RE, r, q⟩ => by
  cases r with
  | nil => exact (show False from q).elim
  | @cons x v xs vs rx rs =>
    refine ⟨v, vs, rfl, ρ, ah, env, x, R, RE, rx, ?_⟩
    unfold gsCons at q
    dsimp only at q
    cases hg : g x env ah with
    | no => rw [hg] at q; exact q
    | er y ah1 => rw [hg] at q; exact q
    | rt y ah1 => rw [hg] at q; exact (show False from q).elim
    | bk y ah1 => rw [hg] at q; exact (show False from q).elim
    | ct y ah1 => rw [hg] at q; exact (show False from q).elim
    | nx e1 ah1 =>
      rw [hg] at q
      intro ρ1 H1 σ1 ex R1 RE1 o1
      refine ⟨ρ1, ah1, e1, xs, R1, RE1, rs.mono ex, ?_⟩
      exact (AftS.pre ex q).nxt (fun σ2 H2 h o2 => h (o1.trans o2)) (fun _ _ h => h) (fun _ _ h => h) (fun _ _ h => h)
theorem h_tup {k n : Nat} (hc : X.calm = true) (h : PGs X es (tGss (kc X) E gs S)) (hn : (assignEach es X.env).length = n := by rfl) (hst : (assignEach es X.env).findIdx? (·.1) = none := by rfl) : PG X (.Tuple es k pos) (tGs (kc X) E (gTupM n gs) S) := pg_imp (pg_tup hc h hn hst) fun v σ H Q ⟨ρ, ah, env, x, R, RE, r, q⟩ => by
  unfold gTupM at q
  cases x with
  | tup xs =>
    dsimp only at q
    obtain ⟨p, vs, rfl, hs, rs⟩ := r.tup_inv
    split at q
    · exact ⟨p, vs, rfl, hs, by rw [← rs.length]; assumption, ρ, ah, env, xs, R, RE, rs, q⟩
    · exact (show False from q).elim
  | _ => exact (show False from q).elim
/-- where it does not matter which slots are stored -/
theorem g_of (h : PG X tg (tGs (kc X) E g S)) : PG X tg (tG (kc X) E g) := pg_imp h fun v σ H Q ⟨ρ, ah, env, x, R, RE, r, q⟩ => ⟨ρ, ah, env, x, R, RE, r, q.nxt (fun _ _ h _ => h) (fun _ _ h => h) (fun _ _ h => h) (fun _ _ h => h)⟩
end
def GsOk (g : CGs) : Prop := ∀ xs env ah, match g xs env ah with | .nx _ _ => True | .er _ _ => True | .no => True | _ => False
theorem gsok_nil : GsOk gsNil := fun xs _ _ => by cases xs <;> exact trivial
theorem gsok_cons {g : CG} {gs : CGs} (h : GsOk gs) : GsOk (gsCons g gs) := fun xs env ah => by
  cases xs with
  | nil => exact trivial
  | cons x r =>
    unfold gsCons
    dsimp only
    cases g x env ah with
    | nx e ah1 => exact h r e ah1
    | _ => exact trivial
theorem gok_tup {n : Nat} {gs : CGs} (h : GsOk gs) : GOk (gTupM n gs) := fun x env ah => by
  cases x with
  | tup xs =>
    show match (if xs.length = n then gs xs env ah else .no) with | .nx _ _ => True | .er _ _ => True | .no => True | _ => False
    by_cases e : xs.length = n
    · rw [if_pos e]
      exact h xs env ah
    · rw [if_neg e]
      exact trivial
  | _ => exact trivial

/-! ### the comprehension -/
section
variable {X : Cx} {E : XK} {pos : Pos} {tg iter elt : Expr} {ifs : List Expr} {it : CIE} {g : CG} {t : CT} {c : CE} {scope : Scope} {own : List (Str × Nat)}
abbrev EN : XK := fun _ _ _ => False
theorem lc_cut {vs : List Nat} {σ : L2.St} {H : Hp} {Q : VK} (q : tE (kc X) E (cLc it g t c vs) σ H Q) : tLc (tI (kc X) E it) (tGs (kc X) EN g vs) (tT (kc X) EN t) (tE (kc X) EN c) vs σ H Q := by
  obtain ⟨ρ, ah, env, R, RE, q⟩ := q
  refine ⟨ρ, ah, env, R, RE, ?_⟩
  unfold cLc at q
  cases ha : it env ah with
  | no => rw [ha] at q; exact q
  | er x ah1 => rw [ha] at q; exact q
  | ok ci ah1 =>
    rw [ha] at q
    intro ρ1 H1 J e1 R1 its D hD
    have q := Aft.pre e1 q
    dsimp only at q
    let W : Nat → Nat → Hp → Prop := fun i m H' => ∃ ρ' ah' acc vacc, Ext ρ1 ah1.length H1 ρ' ah'.length H' ∧ Rep (kc X) ρ' ah' H' ∧ H' D = some (.lst vacc) ∧ RVs (kc X) ρ' ah'.length H' acc vacc ∧ (∀ j, j < ah'.length → ρ' j ≠ D) ∧ acc.length ≤ i ∧ i + m ≤ FUEL ∧
      Aft (kc X) E ρ1 ah1.length H1 (lcL ci g t c (wipeE env vs) m i acc ah') Q
    have k0 : ∀ b w, H1 b = some w → upd H1 D (.lst []) b = some w := fun b w hb => by rw [upd_ne (ne_of_none hb hD)]; exact hb
    obtain ⟨R1', e1'⟩ := R1.grow k0
    have nD : ∀ j, j < ah1.length → ρ1 j ≠ D := fun j hj z => by
      obtain ⟨u, hu⟩ := R1.there hj
      rw [z, hD] at hu
      cases hu
    refine ⟨W, ⟨FUEL, ρ1, ah1, [], [], e1', R1', upd_same, .nil, nD, Nat.zero_le _, by omega, q⟩, ?_⟩
    rintro i m H' ⟨ρ', ah', acc, vacc, e2, R', hDl, ra, nD', hl, hm, q⟩
    cases m with
    | zero => exact (show False from q).elim
    | succ f =>
      unfold lcL at q
      obtain ⟨i1, i2⟩ := its ρ' ah' H' i e2.w R'
      cases hx : ci ah' i with
      | no => rw [hx] at q; exact (show False from q).elim
      | stop =>
        rw [hx] at q
        refine .inl ⟨i1 hx, ?_⟩
        have hlen : (ah' ++ [AO.lst acc]).length = ah'.length + 1 := by simp
        have e3 : Ext ρ1 ah1.length H1 (rput ρ' ah'.length D) (ah'.length + 1) H' := by
          refine ⟨Nat.le_succ_of_le e2.le, fun j hj => ?_, fun j h1 h2 => ?_, e2.kp, e2.th⟩
          · rw [rput_lt (Nat.lt_of_lt_of_le hj e2.le)]
            exact e2.ag j hj
          · by_cases z : j < ah'.length
            · rw [rput_lt z]
              exact e2.nw j h1 z
            · have : j = ah'.length := by omega
              subst this
              rw [rput_same]
              exact hD
        have e4 : Ext ρ' ah'.length (fun b => if b = D then none else H' b) (rput ρ' ah'.length D) (ah'.length + 1) H' := by
          have kk : ∀ b w, (if b = D then none else H' b) = some w → H' b = some w := fun b w hb => by
            by_cases z : b = D
            · rw [if_pos z] at hb; cases hb
            · rw [if_neg z] at hb; exact hb
          exact .alloc kk (if_pos rfl)
        have R4 : Rep (kc X) (rput ρ' ah'.length D) (ah' ++ [AO.lst acc]) H' := by
          have mono : ∀ {x v}, RV (kc X) ρ' ah'.length H' x v → RV (kc X) (rput ρ' ah'.length D) (ah'.length + 1) H' x v := fun {x v} h => by
            have ee : ∀ {x v}, RV (kc X) ρ' ah'.length H' x v → RV (kc X) (rput ρ' ah'.length D) (ah'.length + 1) H' x v := fun {x v} h => RV.mono2 (fun j hj => rput_lt hj) (Nat.le_succ _) (fun _ _ _ h => h) h
            exact ee h
          refine ⟨fun j o hj => ?_, fun j k hj hk z => ?_⟩
          · rw [hlen]
            by_cases z : j < ah'.length
            · rw [List.getElem?_append_left z] at hj
              rw [rput_lt z]
              exact RO.mono2 (fun j hj => rput_lt hj) (Nat.le_succ _) (fun _ _ _ h => h) rfl (R'.obj j o hj)
            · have : j = ah'.length := by
                have := (List.getElem?_eq_some_iff.mp hj).1
                rw [hlen] at this
                omega
              subst this
              rw [List.getElem?_append_right (Nat.le_refl _), Nat.sub_self] at hj
              have : AO.lst acc = o := by simpa using hj
              subst this
              rw [rput_same]
              exact ⟨vacc, hDl, RVs.mono2 (fun j hj => rput_lt hj) (Nat.le_succ _) (fun _ _ _ h => h) ra⟩
          · rw [hlen] at hj hk
            by_cases zj : j < ah'.length
            · rw [rput_lt zj] at z
              by_cases zk : k < ah'.length
              · rw [rput_lt zk] at z
                exact R'.inj j k zj zk z
              · have : k = ah'.length := by omega
                subst this
                rw [rput_same] at z
                exact absurd z (nD' j zj)
            · have : j = ah'.length := by omega
              subst this
              rw [rput_same] at z
              by_cases zk : k < ah'.length
              · rw [rput_lt zk] at z
                exact absurd z.symm (nD' k zk)
              · omega
        refine q (rput ρ' ah'.length D) H' _ (by rw [hlen]; exact e3) R4 ?_
        have z : RV (kc X) (rput ρ' ah'.length D) (ah' ++ [AO.lst acc]).length H' (.obj ah'.length) (.ref (rput ρ' ah'.length D ah'.length)) := .obj (by rw [hlen]; exact Nat.lt_succ_self _)
        rw [rput_same] at z
        exact z
      | yld x =>
        rw [hx] at q
        obtain ⟨go, y⟩ := i2 x hx
        refine .inr ⟨go, fun H2 => W (i + 1) f H2, fun H2 h => ⟨f, Nat.lt_succ_self f, h⟩, fun v H2 hv => ?_⟩
        obtain ⟨e3, R2, rv⟩ := y v H2 hv
        have D2 : H2 D = some (.lst vacc) := e3.kp _ _ hDl (.inr nD')
        refine ⟨ρ', ah', wipeE env vs, x, R2, ((RE.mono (e1.trans e2)).wipe vs).mono e3, rv, ?_⟩
        dsimp only at q
        cases hgx : g x (wipeE env vs) ah' with
        | no => rw [hgx] at q; exact (show False from q).elim
        | er y ah2 => rw [hgx] at q; exact (show False from q).elim
        | rt y ah2 => rw [hgx] at q; exact (show False from q).elim
        | bk y ah2 => rw [hgx] at q; exact (show False from q).elim
        | ct y ah2 => rw [hgx] at q; exact (show False from q).elim
        | nx en ah2 =>
          rw [hgx] at q
          intro ρ3 H3 σ3 e4 R3 RE3 o3
          refine ⟨wipe_outs o3, ρ3, ah2, en, R3, RE3, ?_⟩
          have D3 : H3 D = some (.lst vacc) := e4.kp _ _ D2 (.inr nD')
          have n3 : ∀ j, j < ah2.length → ρ3 j ≠ D := fun j hj z => by
            by_cases l : j < ah'.length
            · rw [e4.ag j l] at z
              exact nD' j l z
            · have w := e4.nw j (Nat.le_of_not_lt l) hj
              rw [z, D2] at w
              cases w
          dsimp only at q
          cases htx : t en ah2 with
          | no => rw [htx] at q; exact (show False from q).elim
          | er y ah3 => rw [htx] at q; exact (show False from q).elim
          | ok b ah3 =>
            rw [htx] at q
            intro ρ4 H4 e5 R4
            have D4 : H4 D = some (.lst vacc) := e5.kp _ _ D3 (.inr n3)
            have n4 : ∀ j, j < ah3.length → ρ4 j ≠ D := fun j hj z => by
              by_cases l : j < ah2.length
              · rw [e5.ag j l] at z
                exact n3 j l z
              · have w := e5.nw j (Nat.le_of_not_lt l) hj
                rw [z, D3] at w
                cases w
            have e24 := e2.trans (e3.trans (e4.trans e5))
            cases b with
            | false =>
              refine ⟨ρ4, ah3, acc, vacc, e24, R4, D4, ra.mono (e3.trans (e4.trans e5)), n4, Nat.le_succ_of_le hl, by omega, q⟩
            | true =>
              refine ⟨ρ4, ah3, en, R4, RE3.mono e5, ?_⟩
              dsimp only at q
              cases hcx : c en ah3 with
              | no => rw [hcx] at q; exact (show False from q).elim
              | er y ah4 => rw [hcx] at q; exact (show False from q).elim
              | ok y ah4 =>
                rw [hcx] at q
                intro ρ5 H5 v5 e6 R5 r5
                have D5 : H5 D = some (.lst vacc) := e6.kp _ _ D4 (.inr n4)
                have n5 : ∀ j, j < ah4.length → ρ5 j ≠ D := fun j hj z => by
                  by_cases l : j < ah3.length
                  · rw [e6.ag j l] at z
                    exact n4 j l z
                  · have w := e6.nw j (Nat.le_of_not_lt l) hj
                    rw [z, D4] at w
                    cases w
                have e25 := e24.trans e6
                have hlen : vacc.length < sizeLine := by
                  rw [← ra.length, sizeLine_eq]
                  have : FUEL = 100000 := rfl
                  omega
                have ra5 := ra.mono (e3.trans (e4.trans (e5.trans e6)))
                have kt : ∀ p ws, H5 p = some (.tup ws) → upd H5 D (.lst (vacc ++ [v5])) p = some (.tup ws) := fun p ws hp => by
                  rw [upd_ne]
                  · exact hp
                  · rintro rfl
                    rw [D5] at hp
                    cases hp
                have kf : ∀ p ob ws, H5 p = some (.frz ob ws) → upd H5 D (.lst (vacc ++ [v5])) p = some (.frz ob ws) := fun p ob ws hp => by
                  rw [upd_ne]
                  · exact hp
                  · rintro rfl
                    rw [D5] at hp
                    cases hp
                have kk : ∀ b p ws, SqB (kc X).K H5 b p ws → SqB (kc X).K (upd H5 D (.lst (vacc ++ [v5]))) b p ws := fun b p ws h => by
                  cases b with
                  | true =>
                    rcases h with ⟨ob, h, k⟩ | h
                    · exact .inl ⟨ob, kf _ _ _ h, k⟩
                    · exact .inr h
                  | false =>
                    rcases h with ⟨ob, h⟩ | h
                    · exact .inl ⟨ob, kf _ _ _ h⟩
                    · exact .inr h
                refine ⟨vacc, D5, hlen, ρ5, ah4, acc ++ [y], vacc ++ [v5], ?_, ?_, upd_same, ?_, n5, by rw [List.length_append]; exact Nat.succ_le_succ hl, by omega, q⟩
                · refine ⟨e25.le, e25.ag, e25.nw, fun a o h s => ?_, fun a o h => ?_⟩
                  · rw [upd_ne (ne_of_none h hD)]
                    exact e25.kp a o h s
                  · rw [upd_ne (ne_of_none h hD)]
                    exact e25.th a o h
                · refine ⟨fun j o hj => ?_, R5.inj⟩
                  have hj' := (List.getElem?_eq_some_iff.mp hj).1
                  exact RO.mono2 (fun _ _ => rfl) (Nat.le_refl _) kk (upd_ne (n5 j hj')) (R5.obj j o hj)
                · exact RVs.mono2 (fun _ _ => rfl) (Nat.le_refl _) kk (ra5.append (.cons r5 .nil))
end
end Sm

set_option Elab.async false
set_option linter.all false
set_option maxRecDepth 100000
set_option maxHeartbeats 4000000
namespace Sm
open PySem PySem.Spec PyProof.Rows L2

/-! ### argument lists, displays -/
def caNil : CA := fun _ => ret []
def caCons (c : CE) (cs : CA) : CA := fun env => bind (c env) fun x => bind (cs env) fun xs => ret (x :: xs)
def seqOf (x : AV) (ah : AH) : Option (List AV) := match x with
  | .tup xs => some xs
  | .obj n => lstAt ah n
  | _ => none
def caStar (c : CE) (cs : CA) : CA := fun env => bind (c env) fun x ah => match seqOf x ah with
  | none => .no
  | some xs => bind (cs env) (fun ys => ret (xs ++ ys)) ah
def cTup (cs : CA) : CE := fun env => bind (cs env) fun xs ah => if xs.length ≤ LIM then .ok (.tup xs) ah else .no
def cLst (cs : CA) : CE := fun env => bind (cs env) fun xs ah => if xs.length ≤ LIM then .ok (.obj ah.length) (ah ++ [.lst xs]) else .no
section
variable {C : KC} {E : XK} {ρ ρ' : Nat → Addr} {H H' : Hp} {ah ah' : AH} {n : Nat} {xs : List AV}
theorem Rep.seq (R : Rep C ρ ah H) {x : AV} {v : V} (r : RV C ρ ah.length H x v) (h : seqOf x ah = some xs) : ∃ p vs, v = .ref p ∧ (SqT C.K H p vs ∨ SqL C.K H p vs) ∧ RVs C ρ ah.length H xs vs := by
  cases x with
  | tup ys =>
    cases h
    obtain ⟨p, vs, rfl, h1, h2⟩ := r.tup_inv
    exact ⟨p, vs, rfl, .inl h1, h2⟩
  | obj n =>
    obtain ⟨hn, rfl⟩ := r.obj_inv
    obtain ⟨_, vs, h1, h2⟩ := R.lst (show lstAt ah n = some xs from h)
    exact ⟨_, vs, rfl, .inr h1, h2⟩
  | _ => cases h
end
section
variable {X : Cx} {E : XK} {pos : Pos} {e : Expr} {es : List Expr} {c : CE} {cs : CA}
theorem a_nil : PA X [] (tA (kc X) E caNil) := pa_imp pa_nil fun σ H Q ⟨ρ, ah, env, R, RE, q⟩ => AftA.here R q .nil
theorem a_cons (ha : PE X e (tE (kc X) E c)) (hr : PA X es (tA (kc X) E cs)) (hs : starEach (e :: es) X.env = (false, eval e X.env) :: starEach es X.env := by rfl) : PA X (e :: es) (tA (kc X) E (caCons c cs)) := pa_imp (pa_cons ha hr hs) fun σ H Q ⟨ρ, ah, env, R, RE, q⟩ => by
  refine ⟨ρ, ah, env, R, RE, ?_⟩
  unfold caCons bind at q
  cases ha : c env ah with
  | no => rw [ha] at q; exact q
  | er x ah1 => rw [ha] at q; exact q
  | ok x ah1 =>
    rw [ha] at q
    intro ρ1 H1 v e1 R1 r
    refine ⟨ρ1, ah1, env, R1, RE.mono e1, ?_⟩
    have q := AftA.pre e1 q
    dsimp only at q
    cases hb : cs env ah1 with
    | no => rw [hb] at q; exact q
    | er x ah1 => rw [hb] at q; exact q
    | ok ys ah2 =>
      rw [hb] at q
      intro ρ2 H2 vs e2 R2 rs
      exact q ρ2 H2 _ e2 R2 (.cons (r.mono e2) rs)
theorem a_star {p : Pos} (ha : PE X e (tE (kc X) E c)) (hr : PA X es (tA (kc X) E cs)) (hs : starEach (.Starred e p :: es) X.env = (true, eval e X.env) :: starEach es X.env := by rfl) : PA X (.Starred e p :: es) (tA (kc X) E (caStar c cs)) := pa_imp (StX.pa_star ha hr hs) fun σ H Q ⟨ρ, ah, env, R, RE, q⟩ => by
  refine ⟨ρ, ah, env, R, RE, ?_⟩
  unfold caStar bind at q
  cases ha : c env ah with
  | no => rw [ha] at q; exact q
  | er x ah1 => rw [ha] at q; exact q
  | ok x ah1 =>
    rw [ha] at q
    intro ρ1 H1 v e1 R1 r
    dsimp only at q
    cases hl : seqOf x ah1 with
    | none => rw [hl] at q; exact (show False from q).elim
    | some xs =>
      rw [hl] at q
      obtain ⟨p, vs, rfl, hs, rs⟩ := R1.seq r hl
      refine ⟨p, vs, rfl, hs, ρ1, ah1, env, R1, RE.mono e1, ?_⟩
      have q := AftA.pre e1 q
      dsimp only at q
      cases hb : cs env ah1 with
      | no => rw [hb] at q; exact q
      | er x ah1 => rw [hb] at q; exact q
      | ok ys ah2 =>
        rw [hb] at q
        intro ρ2 H2 ws e2 R2 rs2
        exact q ρ2 H2 _ e2 R2 ((rs.mono e2).append rs2)
theorem e_tup {k} (h : PA X es (tA (kc X) E cs)) : PE X (.Tuple es k pos) (tE (kc X) E (cTup cs)) := pe_imp (pe_tupN h) fun σ H Q ⟨ρ, ah, env, R, RE, q⟩ => by
  refine ⟨ρ, ah, env, R, RE, ?_⟩
  unfold cTup bind at q
  cases ha : cs env ah with
  | no => rw [ha] at q; exact q
  | er x ah1 => rw [ha] at q; exact q
  | ok xs ah1 =>
    rw [ha] at q
    intro ρ1 H1 vs e1 R1 rs
    have q := Aft.pre e1 q
    dsimp only at q
    split at q
    · exact ⟨Nat.le_trans (by rw [← rs.length]; assumption) lim_line, Aft.tup R1 q rs⟩
    · exact (show False from q).elim
theorem e_lst (h : PA X es (tA (kc X) E cs)) : PE X (.List es pos) (tE (kc X) E (cLst cs)) := pe_imp (pe_lst h) fun σ H Q ⟨ρ, ah, env, R, RE, q⟩ => by
  refine ⟨ρ, ah, env, R, RE, ?_⟩
  unfold cLst bind at q
  cases ha : cs env ah with
  | no => rw [ha] at q; exact q
  | er x ah1 => rw [ha] at q; exact q
  | ok xs ah1 =>
    rw [ha] at q
    intro ρ1 H1 vs e1 R1 rs
    have q := Aft.pre e1 q
    dsimp only at q
    split at q
    · exact ⟨Nat.le_trans (by rw [← rs.length]; assumption) lim_line, Aft.lst R1 q rs⟩
    · exact (show False from q).elim
end

/-! ### comprehensions as expressions -/
section
variable {X : Cx} {E : XK} {pos : Pos} {tg iter elt : Expr} {ifs : List Expr} {it : CIE} {g : CG} {t : CT} {c : CE} {scope : Scope} {own : List (Str × Nat)}
theorem pts_imp {t t' : TT} (h : PTs X ifs t) (k : ∀ σ H Q, t' σ H Q → t σ H Q) : PTs X ifs t' := ⟨fun pins s σ H Q I q => h.run pins s σ H Q I (k σ H Q q)⟩
theorem ts_nil : PTs X [] (tT (kc X) E cYes) := pts_imp pts_nil fun σ H Q ⟨ρ, ah, env, R, RE, q⟩ => AftT.here R q
theorem ts_one {k : Expr} (h : PT X k (tT (kc X) E t)) : PTs X [k] (tT (kc X) E t) := pts_one h
theorem e_lc (hc : X.calm = true) (hN : X.N.Nodup) (hi : PI X tg iter (tI (kc X) E it)) (ok : BlkOk X.N X.env.scope scope own)
    (hg : ∀ (s : Shared) (H : Hp) (Cc : Addr) (cl : List (Str × Addr)) (fp : List Addr), PG (X.blk s H scope (compEnvC scope cl Cc X.env) fp) tg (tGs (kc X) EN g (own.map (·.2)))) (ht : ∀ (s : Shared) (H : Hp) (Cc : Addr) (cl : List (Str × Addr)) (fp : List Addr), PTs (X.blk s H scope (compEnvC scope cl Cc X.env) fp) ifs (tT (kc X) EN t))
    (he : ∀ (s : Shared) (H : Hp) (Cc : Addr) (cl : List (Str × Addr)) (fp : List Addr), PE (X.blk s H scope (compEnvC scope cl Cc X.env) fp) elt (tE (kc X) EN c)) (hs : ∀ x, foldedSetIterable iter X.env x = pure x := by intro _; rfl) :
    PE X (.ListComp elt [⟨tg, iter, ifs, 0⟩] scope pos) (tE (kc X) E (cLc it g t c (own.map (·.2)))) := pe_imp (pe_lc hc hN hi ok hg ht he hs) fun _ _ _ q => lc_cut q
theorem s_setLc {y : Str} {py spos : Pos} (i : Nat) (hc : X.calm = true) (hN : X.N.Nodup) (hy : X.N[i]? = some y) (hyl : X.env.scope.names.lookup y = some .local)
    (hsw : swapsWith (.ListComp elt [⟨tg, iter, ifs, 0⟩] scope pos) (some (.Name y py)) spos.line X.env = pure true) (hi : PI X tg iter (tI (kc X) E it)) (ok : BlkOk X.N X.env.scope scope own)
    (hg : ∀ (s : Shared) (H : Hp) (Cc : Addr) (cl : List (Str × Addr)) (fp : List Addr), PG (X.blk s H scope (compEnvC scope cl Cc X.env) fp) tg (tGs (kc X) EN g (own.map (·.2)))) (ht : ∀ (s : Shared) (H : Hp) (Cc : Addr) (cl : List (Str × Addr)) (fp : List Addr), PTs (X.blk s H scope (compEnvC scope cl Cc X.env) fp) ifs (tT (kc X) EN t))
    (he : ∀ (s : Shared) (H : Hp) (Cc : Addr) (cl : List (Str × Addr)) (fp : List Addr), PE (X.blk s H scope (compEnvC scope cl Cc X.env) fp) elt (tE (kc X) EN c)) (hs : ∀ x, foldedSetIterable iter X.env x = pure x := by intro _; rfl) :
    PS X (.Assign [.Name y py] (.ListComp elt [⟨tg, iter, ifs, 0⟩] scope pos) spos) (tS (kc X) E (cAsg (cLc it g t c (own.map (·.2))) (gNam i))) := ps_imp (ps_setLc (i := i) hc hN hy hyl hsw hi ok hg ht he hs) fun D σ H ⟨ρ, ah, env, R, RE, q⟩ => by
  refine lc_cut (E := E) ⟨ρ, ah, env, R, RE, ?_⟩
  unfold cAsg at q
  cases hh : cLc it g t c (own.map (·.2)) env ah with
  | no => rw [hh] at q; exact q
  | er x ah1 => rw [hh] at q; exact q
  | ok x ah1 =>
    rw [hh] at q
    exact fun ρ1 H1 v e1 R1 r => q ρ1 H1 _ e1 R1 ((RE.mono e1).set i r)
end

/-! ### defs and their calls -/
def cFn (N : Nat) (c : CS) : List AV → CM AV := fun xs ah => match c (xs.map some ++ List.replicate (N - xs.length) none) ah with
  | .nx _ ah1 => .ok .non ah1
  | .rt y ah1 => .ok y ah1
  | .er x ah1 => .er x ah1
  | _ => .no
theorem REnv.start {C : KC} {ρ : Nat → Addr} {n : Nat} {H : Hp} {N : List Str} {xs : List AV} {vs : List V} (r : RVs C ρ n H xs vs) : REnv C ρ n H (xs.map some ++ List.replicate (N.length - xs.length) none) (L2.start N vs) := by
  have hl := r.length
  refine ⟨by unfold L2.start; simp [hl], fun i x q => ?_⟩
  by_cases h : i < xs.length
  · rw [List.getElem?_append_left (by simpa using h)] at q
    rw [List.getElem?_map] at q
    have hx : xs[i]? = some x := by
      cases z : xs[i]? with
      | none => rw [z] at q; cases q
      | some y => rw [z] at q; exact congrArg some (Option.some.inj (Option.some.inj q))
    obtain ⟨v, h1, h2⟩ := r.get hx
    refine ⟨v, ?_, h2⟩
    unfold L2.start
    rw [List.getElem?_append_left (by simpa using (hl ▸ h)), List.getElem?_map, h1]
    rfl
  · rw [List.getElem?_append_right (by simpa using Nat.le_of_not_lt h)] at q
    rw [List.getElem?_replicate] at q
    split at q <;> cases q
section
variable {P : Program} {w : World} {K : PySem.W.Frag} {mg : Str → Option Value} {base : Heap}
theorem m_fn {x qual : Str} {params : Arguments} {body : List Stmt} {scope : Scope} {dvs : List V} {kws : List (Str × V)} {f : Addr} {fd : FuncData} {N ps : List Str} {k : Nat} {c : CS} (F : FunD K x qual params body scope dvs kws f fd) (S : FnScope N ps scope)
    (hb : ∀ (cdv : Value) (A : Around) (outer : List Env) (s : Shared) (H : Hp) (E : XK), Room k (A.deeper (envOfC qual scope s.heap.objs.size f cdv)) → PSs (cxOf (L2.CX P w) P w K mg base N qual scope f cdv A outer s H E) body (tS ⟨K, mg⟩ E c)) :
    FnOk P w K mg base (L2.CX P w) (k + 1) f fd ps (spM ⟨K, mg⟩ ps.length (cFn N.length c)) := by
  refine F.ok S (fun vs H Q E ⟨ρ, ah, xs, _, r, hl, _⟩ => by rw [← r.length]; exact hl) (fun cdv A outer s H vs Q E hr ⟨ρ, ah, xs, R, r, hl, q⟩ => ⟨_, hb cdv A outer s H E hr, ρ, ah, _, R, REnv.start (N := N) r, ?_⟩)
  unfold cFn at q
  cases hh : c (xs.map some ++ List.replicate (N.length - xs.length) none) ah with
  | no => rw [hh] at q; exact q
  | nx e ah1 =>
    rw [hh] at q
    exact fun ρ1 H1 σ1 e1 R1 RE1 => q ρ1 H1 .non e1 R1 .non
  | rt y ah1 => rw [hh] at q; exact q
  | bk e ah1 => rw [hh] at q; exact (show False from q).elim
  | ct e ah1 => rw [hh] at q; exact (show False from q).elim
  | er x ah1 => rw [hh] at q; exact q
end
def cCall (n : Nat) (f : List AV → CM AV) (ds : List AV) (cs : CA) : CE := fun env => bind (cs env) fun xs => if xs.length + ds.length = n then f (xs ++ ds) else no
/-- constants that need no heap -/
def RDs (C : KC) (ds : List AV) (dvs : List V) : Prop := ∀ ρ n H, RVs C ρ n H ds dvs
theorem rds_nil {C : KC} : RDs C [] [] := fun _ _ _ => .nil
section
variable {X : Cx} {E : XK} {x : Str} {p pos : Pos} {e : Expr} {es : List Expr} {cs : CA} {CXp : CXT} {k n : Nat} {f : Addr} {fd : FuncData} {ps : List Str} {ds : List Value} {dvs : List V} {da : List AV} {m : List AV → CM AV}
theorem call_cut (hD : RDs (kc X) da dvs) {σ : L2.St} {H : Hp} {Q : VK} (q : tE (kc X) E (cCall n m da cs) σ H Q) : tCall (spM (kc X) n m) dvs E (tA (kc X) E cs) σ H Q := by
  obtain ⟨ρ, ah, env, R, RE, q⟩ := q
  refine ⟨ρ, ah, env, R, RE, ?_⟩
  unfold cCall bind at q
  cases ha : cs env ah with
  | no => rw [ha] at q; exact q
  | er x ah1 => rw [ha] at q; exact q
  | ok xs ah1 =>
    rw [ha] at q
    intro ρ1 H1 vs e1 R1 r
    have q := Aft.pre e1 q
    dsimp only at q
    split at q
    · exact ⟨ρ1, ah1, xs ++ da, R1, r.append (hD _ _ _), by rw [List.length_append]; assumption, q⟩
    · exact (show False from q).elim
theorem e_call (F : FnOk X.prog X.w X.K X.mg X.base CXp k f fd ps (spM (kc X) n m)) (hr : Room k X.A) (hg : Gl X x) (hm : X.mg x = some (.ref f)) (hk : PySem.W.keepIn X.K (.ref f) = true) (hb : Binds X.K fd ps ds) (hd : Vals dvs ds) (hD : RDs (kc X) da dvs) (hx : Passes CXp X E)
    (ha : PA X (e :: es) (tA (kc X) E cs)) (hdb : (x == ("__debug__" : Str)) = false := by decide) (he : starEach (e :: es) X.env = (false, eval e X.env) :: starEach es X.env := by rfl) (hpl : (backTo pos (starEach es X.env)).any (·.1) = false := by rfl) :
    PE X (.Call (.Name x p) (e :: es) [] pos) (tE (kc X) E (cCall n m da cs)) := pe_imp (pe_call F hr hg hm hk hb hd hx ha hdb he hpl) fun _ _ _ q => call_cut hD q
theorem e_call0 (F : FnOk X.prog X.w X.K X.mg X.base CXp k f fd ps (spM (kc X) n m)) (hr : Room k X.A) (hg : Gl X x) (hm : X.mg x = some (.ref f)) (hk : PySem.W.keepIn X.K (.ref f) = true) (hb : Binds X.K fd ps ds) (hd : Vals dvs ds) (hD : RDs (kc X) da dvs) (hx : Passes CXp X E)
    (hdb : (x == ("__debug__" : Str)) = false := by decide) : PE X (.Call (.Name x p) [] [] pos) (tE (kc X) E (cCall n m da caNil)) := pe_imp (pe_call0 F hr hg hm hk hb hd hx hdb) fun σ H Q q => by
  obtain ⟨ρ, ah, env, R, RE, q⟩ := call_cut hD q
  exact AftA.here R q .nil
end
end Sm

set_option Elab.async false
set_option linter.all false
set_option maxRecDepth 100000
set_option maxHeartbeats 4000000
namespace Sm
open PySem PySem.Spec PyProof.Rows L2

/-! ### operators by values -/
def addM : AV → AV → CM AV := fun x y ah => match x, y with
  | .int i, .int j => .ok (.int (i + j)) ah
  | .str a, .str b => if a.length + b.length ≤ LIM then .ok (.str (a ++ b)) ah else .no
  | .obj m, .obj n => match ah[m]?, ah[n]? with
    | some (.lst xs), some (.lst ys) => if xs.length + ys.length ≤ LIM then .ok (.obj ah.length) (ah ++ [.lst (xs ++ ys)]) else .no
    | _, _ => .no
  | .tup xs, .tup ys => if xs.isEmpty = false ∧ xs.length + ys.length ≤ LIM then .ok (.tup (xs ++ ys)) ah else .no
  | _, _ => .no
def subM : AV → AV → CM AV := fun x y ah => match x, y with
  | .int i, .int j => .ok (.int (i - j)) ah
  | _, _ => .no
def mulM : AV → AV → CM AV := fun x y ah => match x, y with
  | .int i, .int j => if i.natAbs.log2 + j.natAbs.log2 < 1000000 then .ok (.int (i * j)) ah else .no
  | _, _ => .no
def modM : AV → AV → CM AV := fun x y ah => match x, y with
  | .int i, .int j => if 0 < j then .ok (.int (i % j)) ah else .no
  | _, _ => .no
def fdivM : AV → AV → CM AV := fun x y ah => match x, y with
  | .int i, .int j => if 0 < j ∧ j.natAbs.log2 < 9000 then .ok (.int (i / j)) ah else .no
  | _, _ => .no
def powM : AV → AV → CM AV := fun x y ah => match x, y with
  | .int i, .int j => if 0 ≤ j ∧ j ≤ 1000000 ∧ i.natAbs < 2 ^ 64 then .ok (.int (i ^ j.toNat)) ah else .no
  | _, _ => .no
def cmpM (p : Int → Int → Bool) : AV → AV → CM AV := fun x y ah => match x, y with
  | .int i, .int j => .ok (.bl (p i j)) ah
  | _, _ => .no
def isNM (neg : Bool) : AV → AV → CM AV := fun x y ah => match y with
  | .non => match x with
    | .non => .ok (.bl (!neg)) ah
    | _ => .ok (.bl neg) ah
  | _ => .no
mutual
def dataOf : Nat → AH → AV → Option PyData
  | 0, _, _ => none
  | f + 1, ah, x => match x with
    | .non => some .none
    | .bl b => some (.bool b)
    | .int i => some (.int i)
    | .str s => some (.str s)
    | .tup xs => (dataAll f ah xs).map .tuple
    | .obj n => match lstAt ah n with
      | some xs => (dataAll f ah xs).map .list
      | none => none
    | _ => none
def dataAll : Nat → AH → List AV → Option (List PyData)
  | 0, _, _ => none
  | f + 1, ah, xs => match xs with
    | [] => some []
    | x :: r => match dataOf f ah x, dataAll f ah r with
      | some d, some ds => some (d :: ds)
      | _, _ => none
end
def eqM (neg : Bool) : AV → AV → CM AV := fun x y ah => match dataOf FUEL ah x, dataOf FUEL ah y with
  | some d, some e => if SeqAt.shaped d = true ∧ SeqAt.shaped e = true then .ok (.bl (if neg then !PyData.eqv d e else PyData.eqv d e)) ah else .no
  | _, _ => .no
section
variable {C : KC} {ρ : Nat → Addr} {H : Hp} {ah : AH}
mutual
theorem data_dp (R : Rep C ρ ah H) : ∀ (f : Nat) (x : AV) (v : V) (d : PyData), RV C ρ ah.length H x v → dataOf f ah x = some d → Dp C.K H v d
  | 0, _, _, _, _, h => by simp [dataOf] at h
  | f + 1, x, v, d, r, h => by
    cases x with
    | non => simp [dataOf] at h; subst h; cases r.non_inv; exact .non
    | bl b => simp [dataOf] at h; subst h; cases r.bl_inv; exact .bl b
    | int i => simp [dataOf] at h; subst h; cases r.int_inv; exact .int i
    | str s => simp [dataOf] at h; subst h; cases r.str_inv; exact .str s
    | tup xs =>
      obtain ⟨p, vs, rfl, h1, h2⟩ := r.tup_inv
      simp only [dataOf] at h
      cases q : dataAll f ah xs with
      | none => rw [q] at h; cases h
      | some ds =>
        rw [q] at h
        cases h
        exact .tup h1 (data_all R f xs vs ds h2 q)
    | obj n =>
      obtain ⟨hn, rfl⟩ := r.obj_inv
      simp only [dataOf] at h
      cases q : lstAt ah n with
      | none => rw [q] at h; cases h
      | some xs =>
        rw [q] at h
        dsimp only at h
        obtain ⟨_, vs, h1, h2⟩ := R.lst q
        cases q2 : dataAll f ah xs with
        | none => rw [q2] at h; cases h
        | some ds =>
          rw [q2] at h
          cases h
          exact .lst h1 (data_all R f xs vs ds h2 q2)
    | glo x => simp [dataOf] at h
    | ty t => simp [dataOf] at h
    | fl xs => simp [dataOf] at h
theorem data_all (R : Rep C ρ ah H) : ∀ (f : Nat) (xs : List AV) (vs : List V) (ds : List PyData), RVs C ρ ah.length H xs vs → dataAll f ah xs = some ds → DpAll C.K H vs ds
  | 0, _, _, _, _, h => by simp [dataAll] at h
  | f + 1, xs, vs, ds, r, h => by
    cases r with
    | nil => simp [dataAll] at h; subst h; exact .nil
    | @cons x v xs vs rx rs =>
      simp only [dataAll] at h
      cases q1 : dataOf f ah x with
      | none => rw [q1] at h; cases h
      | some d =>
        cases q2 : dataAll f ah xs with
        | none => rw [q1, q2] at h; cases h
        | some es =>
          rw [q1, q2] at h
          cases h
          exact .cons (data_dp R f x v d rx q1) (data_all R f xs vs es rs q2)
end
end
section
variable {C : KC} {E : XK}
def rAddAll (K : PySem.W.Frag) : R2 := fun x y H Q => (((rI0 fun i j => .int (i + j)) x y H Q ∨ (∃ i j, x = .str i ∧ y = .str j ∧ i.length + j.length ≤ sizeLine ∧ Q (.str (i ++ j)) H)) ∨ rCat x y H Q) ∨ rCatN K x y H Q
theorem op_addAll {X : Cx} : OpR X (binaryOp .Add) (rAddAll X.K) := ((op_add.or op_add_str).or op_cat).or op_catN
theorem lim_le {n : Nat} (h : n ≤ LIM) : n ≤ sizeLine := Nat.le_trans h lim_line
theorem os_add : OpS C E (rAddAll C.K) addM := by
  intro ρ ah H x y vx vy Q R rx ry q
  cases x <;> cases y <;> first | exact (show False from q).elim | skip
  · cases rx.int_inv; cases ry.int_inv
    exact .inl (.inl (.inl ⟨_, _, rfl, rfl, Aft.here R q (.int _)⟩))
  · cases rx.str_inv; cases ry.str_inv
    unfold addM at q
    dsimp only at q
    split at q
    · exact .inl (.inl (.inr ⟨_, _, rfl, rfl, lim_le ‹_›, Aft.here R q (.str _)⟩))
    · exact (show False from q).elim
  · rename_i xs ys
    obtain ⟨p, vs, rfl, h0, h2⟩ := rx.tup_invN
    have h1 := h0.t
    obtain ⟨p', ws, rfl, h3, h4⟩ := ry.tup_inv
    unfold addM at q
    dsimp only at q
    split at q
    · rename_i hc
      have hne : vs ≠ [] := by
        rintro rfl
        cases h2
        exact absurd hc.1 (by decide)
      refine .inr ⟨p, p', vs, ws, rfl, rfl, h1, h3, hne, ?_, fun e => ?_, fun _ => ?_⟩
      · rw [← h2.length, ← h4.length]; exact lim_le hc.2
      · subst e
        cases h4
        exact Aft.here R q (by rw [List.append_nil]; exact .tup h0 h2)
      · exact Aft.tup R q (h2.append h4)
    · exact (show False from q).elim
  · rename_i m n
    obtain ⟨hm, rfl⟩ := rx.obj_inv
    obtain ⟨hn, rfl⟩ := ry.obj_inv
    unfold addM at q
    dsimp only at q
    split at q
    · rename_i xs ys e1 e2
      obtain ⟨vs, h1, h2⟩ := R.obj _ _ e1
      obtain ⟨ws, h3, h4⟩ := R.obj _ _ e2
      split at q
      · refine .inl (.inr ⟨_, _, vs, ws, rfl, rfl, h1, h3, ?_, Aft.lst R q (h2.append h4)⟩)
        rw [← h2.length, ← h4.length]
        exact lim_le ‹_›
      · exact (show False from q).elim
    · exact (show False from q).elim
theorem os_sub : OpS C E (rI0 fun i j => .int (i - j)) subM := by
  intro ρ ah H x y vx vy Q R rx ry q
  cases x <;> cases y <;> first | exact (show False from q).elim | skip
  cases rx.int_inv; cases ry.int_inv
  exact ⟨_, _, rfl, rfl, Aft.here R q (.int _)⟩
theorem os_mul : OpS C E (rI CMulW fun i j => .int (i * j)) mulM := by
  intro ρ ah H x y vx vy Q R rx ry q
  cases x <;> cases y <;> first | exact (show False from q).elim | skip
  cases rx.int_inv; cases ry.int_inv
  unfold mulM at q
  dsimp only at q
  split at q
  · exact ⟨_, _, rfl, rfl, ‹_›, Aft.here R q (.int _)⟩
  · exact (show False from q).elim
theorem os_mod : OpS C E (rI (fun _ j => 0 < j) fun i j => .int (i % j)) modM := by
  intro ρ ah H x y vx vy Q R rx ry q
  cases x <;> cases y <;> first | exact (show False from q).elim | skip
  cases rx.int_inv; cases ry.int_inv
  unfold modM at q
  dsimp only at q
  split at q
  · exact ⟨_, _, rfl, rfl, ‹_›, Aft.here R q (.int _)⟩
  · exact (show False from q).elim
theorem os_fdiv : OpS C E (rI CDivW fun i j => .int (i / j)) fdivM := by
  intro ρ ah H x y vx vy Q R rx ry q
  cases x <;> cases y <;> first | exact (show False from q).elim | skip
  cases rx.int_inv; cases ry.int_inv
  unfold fdivM at q
  dsimp only at q
  split at q
  · exact ⟨_, _, rfl, rfl, ‹_›, Aft.here R q (.int _)⟩
  · exact (show False from q).elim
theorem os_pow : OpS C E (rI CPow fun i j => .int (i ^ j.toNat)) powM := by
  intro ρ ah H x y vx vy Q R rx ry q
  cases x <;> cases y <;> first | exact (show False from q).elim | skip
  cases rx.int_inv; cases ry.int_inv
  unfold powM at q
  dsimp only at q
  split at q
  · exact ⟨_, _, rfl, rfl, ‹_›, Aft.here R q (.int _)⟩
  · exact (show False from q).elim
theorem os_cmp {p : Int → Int → Bool} : OpS C E (rI0 fun i j => .bl (p i j)) (cmpM p) := by
  intro ρ ah H x y vx vy Q R rx ry q
  cases x <;> cases y <;> first | exact (show False from q).elim | skip
  cases rx.int_inv; cases ry.int_inv
  exact ⟨_, _, rfl, rfl, Aft.here R q (.bl _)⟩
theorem os_isN : OpS C E (fun x y H Q => y = .non ∧ Q (.bl (decide (x = .non))) H) (isNM false) := by
  intro ρ ah H x y vx vy Q R rx ry q
  cases y <;> first | exact (show False from q).elim | skip
  cases ry.non_inv
  refine ⟨rfl, ?_⟩
  by_cases hx : x = .non
  · subst hx
    cases rx.non_inv
    exact Aft.here R q (.bl _)
  · have hv : vx ≠ .non := fun e => by
      subst e
      cases rx
      exact hx rfl
    rw [decide_eq_false hv]
    have q' : Aft C E ρ ah.length H (.ok (.bl false) ah) Q := by
      cases x <;> first | exact q | exact (hx rfl).elim
    exact Aft.here R q' (.bl _)
theorem os_notN : OpS C E (fun x y H Q => y = .non ∧ Q (.bl (!decide (x = .non))) H) (isNM true) := by
  intro ρ ah H x y vx vy Q R rx ry q
  cases y <;> first | exact (show False from q).elim | skip
  cases ry.non_inv
  refine ⟨rfl, ?_⟩
  by_cases hx : x = .non
  · subst hx
    cases rx.non_inv
    exact Aft.here R q (.bl _)
  · have hv : vx ≠ .non := fun e => by
      subst e
      cases rx
      exact hx rfl
    rw [decide_eq_false hv]
    have q' : Aft C E ρ ah.length H (.ok (.bl true) ah) Q := by
      cases x <;> first | exact q | exact (hx rfl).elim
    exact Aft.here R q' (.bl _)
theorem os_eq : OpS C E (rEqD C.K) (eqM false) := by
  intro ρ ah H x y vx vy Q R rx ry q
  unfold eqM at q
  cases h1 : dataOf FUEL ah x with
  | none => rw [h1] at q; exact (show False from q).elim
  | some d =>
    cases h2 : dataOf FUEL ah y with
    | none => rw [h1, h2] at q; exact (show False from q).elim
    | some e =>
      rw [h1, h2] at q
      dsimp only at q
      split at q
      · exact ⟨d, e, data_dp R _ x vx d rx h1, data_dp R _ y vy e ry h2, (‹_ ∧ _›).1, (‹_ ∧ _›).2, Aft.here R q (.bl _)⟩
      · exact (show False from q).elim
theorem os_ne : OpS C E (rNeD C.K) (eqM true) := by
  intro ρ ah H x y vx vy Q R rx ry q
  unfold eqM at q
  cases h1 : dataOf FUEL ah x with
  | none => rw [h1] at q; exact (show False from q).elim
  | some d =>
    cases h2 : dataOf FUEL ah y with
    | none => rw [h1, h2] at q; exact (show False from q).elim
    | some e =>
      rw [h1, h2] at q
      dsimp only at q
      split at q
      · exact ⟨d, e, data_dp R _ x vx d rx h1, data_dp R _ y vy e ry h2, (‹_ ∧ _›).1, (‹_ ∧ _›).2, Aft.here R q (.bl _)⟩
      · exact (show False from q).elim
end
end Sm

set_option Elab.async false
set_option linter.all false
set_option maxRecDepth 100000
set_option maxHeartbeats 4000000
namespace Sm
open PySem PySem.Spec PyProof.Rows L2

/-! ### built-in functions and classes, called -/
def CaS (C : KC) (E : XK) (r : List V → Hp → VK → Prop) (f : List AV → CM AV) : Prop := ∀ ρ ah H xs vs Q, Rep C ρ ah H → RVs C ρ ah.length H xs vs → Aft C E ρ ah.length H (f xs ah) Q → r vs H Q
def cB (f : List AV → CM AV) (cs : CA) : CE := fun env => bind (cs env) f
section
variable {X : Cx} {E : XK} {x : Str} {id T : String} {p pos : Pos} {e : Expr} {es : List Expr} {cs : CA} {r : List V → Hp → VK → Prop} {f : List AV → CM AV}
theorem cb_cut (hf : CaS (kc X) E r f) {σ : L2.St} {H : Hp} {Q : VK} (q : tE (kc X) E (cB f cs) σ H Q) : tCB r (tA (kc X) E cs) σ H Q := by
  obtain ⟨ρ, ah, env, R, RE, q⟩ := q
  refine ⟨ρ, ah, env, R, RE, ?_⟩
  unfold cB bind at q
  cases ha : cs env ah with
  | no => rw [ha] at q; exact q
  | er x ah1 => rw [ha] at q; exact q
  | ok xs ah1 =>
    rw [ha] at q
    exact fun ρ1 H1 vs e1 R1 rs => hf ρ1 ah1 H1 xs vs Q R1 rs (Aft.pre e1 q)
theorem e_callB (hc : CallR X (.builtin id) r) (hf : CaS (kc X) E r f) (hg : Gl X x) (hm : X.mg x = none) (hv : bootBuiltins x = some (.builtin id)) (ha : PA X (e :: es) (tA (kc X) E cs)) (hn : x ≠ "__name__" := by decide) (hdb : (x == ("__debug__" : Str)) = false := by decide)
    (he : starEach (e :: es) X.env = (false, eval e X.env) :: starEach es X.env := by rfl) (hpl : (backTo pos (starEach es X.env)).any (·.1) = false := by rfl) : PE X (.Call (.Name x p) (e :: es) [] pos) (tE (kc X) E (cB f cs)) :=
  pe_imp (pe_callB hc hg hm hv ha hn hdb he hpl) fun _ _ _ q => cb_cut hf q
theorem e_callTy (hc : CallR X (.type T) r) (hf : CaS (kc X) E r f) (hg : Gl X x) (hm : X.mg x = none) (hv : bootBuiltins x = some (.type T)) (ha : PA X (e :: es) (tA (kc X) E cs)) (hn : x ≠ "__name__" := by decide) (hdb : (x == ("__debug__" : Str)) = false := by decide)
    (he : starEach (e :: es) X.env = (false, eval e X.env) :: starEach es X.env := by rfl) (hpl : (backTo pos (starEach es X.env)).any (·.1) = false := by rfl) : PE X (.Call (.Name x p) (e :: es) [] pos) (tE (kc X) E (cB f cs)) :=
  pe_imp (pe_callTy hc hg hm hv ha hn hdb he hpl) fun _ _ _ q => cb_cut hf q
end
def absM : List AV → CM AV := fun xs ah => match xs with
  | [.int i] => .ok (.int (if i < 0 then -i else i)) ah
  | _ => .no
def intM : List AV → CM AV := fun xs ah => match xs with
  | [.int i] => .ok (.int i) ah
  | [.bl k] => .ok (.int (if k then 1 else 0)) ah
  | [.str s] => match PySem.intText? s with
    | some n => if s.length ≤ 640 then .ok (.int n) ah else .no
    | none => .no
  | _ => .no
def lenOf (x : AV) (ah : AH) : Option Nat := match x with
  | .str s => if s.length ≤ LIM then some s.length else none
  | .tup xs => some xs.length
  | .fl xs => some xs.length
  | .obj n => match ah[n]? with
    | some (.lst xs) => some xs.length
    | some (.fls xs) => some xs.length
    | some (.dct kvs) => some kvs.length
    | _ => none
  | _ => none
def lenM : List AV → CM AV := fun xs ah => match xs with
  | [x] => match lenOf x ah with
    | some n => .ok (.int n) ah
    | none => .no
  | _ => .no
def listM : List AV → CM AV := fun xs ah => match xs with
  | [x] => match seqOf x ah with
    | some ys => .ok (.obj ah.length) (ah ++ [.lst ys])
    | none => .no
  | _ => .no
def tupleM : List AV → CM AV := fun xs ah => match xs with
  | [x] => match seqOf x ah with
    | some ys => .ok (.tup ys) ah
    | none => .no
  | _ => .no
def max2M : List AV → CM AV := fun xs ah => match xs with
  | [.int i, .int j] => .ok (.int (if j > i then j else i)) ah
  | _ => .no
def min2M : List AV → CM AV := fun xs ah => match xs with
  | [.int i, .int j] => .ok (.int (if j < i then j else i)) ah
  | _ => .no
def bools : List AV → Option (List Bool)
  | [] => some []
  | .bl b :: r => (bools r).map (b :: ·)
  | _ => none
def allM : List AV → CM AV := fun xs ah => match xs with
  | [.obj n] => match (lstAt ah n).bind bools with
    | some bs => .ok (.bl (bs.all id)) ah
    | none => .no
  | _ => .no
def anyM : List AV → CM AV := fun xs ah => match xs with
  | [.obj n] => match (lstAt ah n).bind bools with
    | some bs => .ok (.bl (bs.any id)) ah
    | none => .no
  | _ => .no
def strIM : List AV → CM AV := fun xs ah => match xs with
  | [.int i] => if i.natAbs.log2 < 1920 then .ok (.str (toString i : String)) ah else .no
  | _ => .no
section
variable {C : KC} {E : XK} {ρ : Nat → Addr} {H : Hp} {ah : AH} {n : Nat}
theorem RVs.one_inv {x : AV} {vs : List V} (r : RVs C ρ n H [x] vs) : ∃ v, vs = [v] ∧ RV C ρ n H x v := by
  cases r with
  | cons a b => cases b; exact ⟨_, rfl, a⟩
theorem RVs.two_inv {x y : AV} {vs : List V} (r : RVs C ρ n H [x, y] vs) : ∃ v w, vs = [v, w] ∧ RV C ρ n H x v ∧ RV C ρ n H y w := by
  cases r with
  | cons a b =>
    obtain ⟨w, rfl, rw'⟩ := RVs.one_inv b
    exact ⟨_, w, rfl, a, rw'⟩
theorem bools_of : ∀ {xs : List AV} {vs : List V} {bs : List Bool}, RVs C ρ n H xs vs → bools xs = some bs → vs = bs.map V.bl
  | _, _, _, .nil, h => by cases h; rfl
  | x :: xs, v :: vs, bs, .cons a b, h => by
    cases x with
    | bl k =>
      cases a.bl_inv
      simp only [bools] at h
      cases q : bools xs with
      | none => rw [q] at h; cases h
      | some cs =>
        rw [q] at h
        cases h
        rw [bools_of b q]
        rfl
    | _ => simp [bools] at h
theorem ca_abs : CaS C E (fun xs H Q => ∃ i, xs = [.int i] ∧ Q (.int (if i < 0 then -i else i)) H) absM := by
  intro ρ ah H xs vs Q R r q
  unfold absM at q
  split at q
  · obtain ⟨v, rfl, rv⟩ := r.one_inv
    cases rv.int_inv
    exact ⟨_, rfl, Aft.here R q (.int _)⟩
  · exact (show False from q).elim
def rInt : List V → Hp → VK → Prop := fun xs H Q => ((∃ i, xs = [.int i] ∧ Q (.int i) H) ∨ ∃ k, xs = [.bl k] ∧ Q (.int (if k then 1 else 0)) H) ∨ (∃ a n, xs = [.str a] ∧ PySem.intText? a = some n ∧ a.length ≤ 640 ∧ Q (.int n) H)
theorem call_int {X : Cx} : CallR X (.type "int") rInt := CallR.or call_int1 call_int_str
theorem ca_int : CaS C E rInt intM := by
  intro ρ ah H xs vs Q R r q
  unfold intM at q
  split at q
  · obtain ⟨v, rfl, rv⟩ := r.one_inv
    cases rv.int_inv
    exact .inl (.inl ⟨_, rfl, Aft.here R q (.int _)⟩)
  · obtain ⟨v, rfl, rv⟩ := r.one_inv
    cases rv.bl_inv
    exact .inl (.inr ⟨_, rfl, Aft.here R q (.int _)⟩)
  · obtain ⟨v, rfl, rv⟩ := r.one_inv
    cases rv.str_inv
    split at q
    · split at q
      · exact .inr ⟨_, _, rfl, ‹_›, ‹_›, Aft.here R q (.int _)⟩
      · exact (show False from q).elim
    · exact (show False from q).elim
  · exact (show False from q).elim
def rLenAll (K : PySem.W.Frag) : List V → Hp → VK → Prop := fun xs H Q => ((∃ p ys, xs = [V.ref p] ∧ (SqL K H p ys ∨ SqT K H p ys) ∧ Q (.int ys.length) H) ∨ (∃ z, xs = [V.str z] ∧ z.length ≤ sizeLine ∧ Q (.int z.length) H)) ∨ (∃ a kvs, xs = [V.ref a] ∧ H a = some (.dK kvs) ∧ Q (.int kvs.length) H)
theorem call_lenAll {X : Cx} : CallR X (.builtin "len") (rLenAll X.K) := CallR.or (CallR.or call_len_seq call_len_str) call_lenD
theorem ca_len : CaS C E (rLenAll C.K) lenM := by
  intro ρ ah H xs vs Q R r q
  unfold lenM at q
  split at q
  · rename_i x
    obtain ⟨v, rfl, rv⟩ := r.one_inv
    cases hl : lenOf x ah with
    | none => rw [hl] at q; exact (show False from q).elim
    | some k =>
      rw [hl] at q
      have q := Aft.here R q (.int _)
      cases x with
      | str s =>
        cases rv.str_inv
        unfold lenOf at hl
        dsimp only at hl
        split at hl
        · cases hl
          exact .inl (.inr ⟨_, rfl, lim_le ‹_›, q⟩)
        · cases hl
      | tup xs =>
        obtain ⟨p, vs, rfl, h1, h2⟩ := rv.tup_inv
        cases hl
        exact .inl (.inl ⟨p, vs, rfl, .inr h1, by rw [← h2.length]; exact q⟩)
      | fl xs =>
        obtain ⟨p, rfl, h1⟩ := rv.fl_inv
        cases hl
        exact .inl (.inl ⟨p, _, rfl, .inl h1.l, by rw [List.length_map]; exact q⟩)
      | obj m =>
        obtain ⟨hm, rfl⟩ := rv.obj_inv
        unfold lenOf at hl
        dsimp only at hl
        split at hl
        · rename_i xs e
          cases hl
          obtain ⟨vs, h1, h2⟩ := R.obj _ _ e
          exact .inl (.inl ⟨_, vs, rfl, .inl (.inl (.inl h1)), by rw [← h2.length]; exact q⟩)
        · rename_i xs e
          cases hl
          obtain ⟨o, vs, h1, h2⟩ := R.obj _ _ e
          exact .inl (.inl ⟨_, vs, rfl, .inl (.inl (.inr ⟨o, h1⟩)), by rw [← h2.length]; exact q⟩)
        · rename_i kvs e
          cases hl
          obtain ⟨ws, h1, h2, h3⟩ := R.obj _ _ e
          have : kvs.length = ws.length := by
            have := congrArg List.length h2
            simpa using this
          exact .inr ⟨_, ws, rfl, h1, by rw [← this]; exact q⟩
        · cases hl
      | _ => cases hl
  · exact (show False from q).elim
theorem ca_list : CaS C E (fun xs H Q => ∃ p ys, xs = [.ref p] ∧ (SqL C.K H p ys ∨ SqT C.K H p ys) ∧ ∀ l, H l = none → Q (.ref l) (upd H l (.lst ys))) listM := by
  intro ρ ah H xs vs Q R r q
  unfold listM at q
  split at q
  · rename_i x
    obtain ⟨v, rfl, rv⟩ := r.one_inv
    cases hl : seqOf x ah with
    | none => rw [hl] at q; exact (show False from q).elim
    | some ys =>
      rw [hl] at q
      obtain ⟨p, vs, rfl, hs, rs⟩ := R.seq rv hl
      exact ⟨p, vs, rfl, hs.symm, Aft.lst R q rs⟩
  · exact (show False from q).elim
theorem ca_tuple : CaS C E (rTupN C.K) tupleM := by
  intro ρ ah H xs vs Q R r q
  unfold tupleM at q
  split at q
  · rename_i x
    obtain ⟨v, rfl, rv⟩ := r.one_inv
    cases x with
    | tup ys =>
      obtain ⟨p, vs, rfl, hs, rs⟩ := rv.tup_invN
      exact ⟨p, vs, rfl, .inr ⟨hs.t, Aft.here R q (.tup hs rs)⟩⟩
    | obj n =>
      obtain ⟨hn, rfl⟩ := rv.obj_inv
      dsimp only [seqOf] at q
      cases hl : lstAt ah n with
      | none => rw [hl] at q; exact (show False from q).elim
      | some ys =>
        rw [hl] at q
        obtain ⟨_, vs, hs, rs⟩ := R.lst hl
        exact ⟨_, vs, rfl, .inl ⟨hs, Aft.tup R q rs⟩⟩
    | _ => exact (show False from q).elim
  · exact (show False from q).elim
theorem ca_max2 : CaS C E (fun xs H Q => ∃ i j, xs = [.int i, .int j] ∧ Q (.int (if j > i then j else i)) H) max2M := by
  intro ρ ah H xs vs Q R r q
  unfold max2M at q
  split at q
  · obtain ⟨v, w, rfl, rv, rw'⟩ := r.two_inv
    cases rv.int_inv
    cases rw'.int_inv
    exact ⟨_, _, rfl, Aft.here R q (.int _)⟩
  · exact (show False from q).elim
theorem ca_min2 : CaS C E (fun xs H Q => ∃ i j, xs = [.int i, .int j] ∧ Q (.int (if j < i then j else i)) H) min2M := by
  intro ρ ah H xs vs Q R r q
  unfold min2M at q
  split at q
  · obtain ⟨v, w, rfl, rv, rw'⟩ := r.two_inv
    cases rv.int_inv
    cases rw'.int_inv
    exact ⟨_, _, rfl, Aft.here R q (.int _)⟩
  · exact (show False from q).elim
theorem ca_all : CaS C E (rAll C.K) allM := by
  intro ρ ah H xs vs Q R r q
  unfold allM at q
  split at q
  · rename_i m
    obtain ⟨v, rfl, rv⟩ := r.one_inv
    obtain ⟨hm, rfl⟩ := rv.obj_inv
    cases hl : lstAt ah m with
    | none => rw [hl] at q; exact (show False from q).elim
    | some ys =>
      rw [hl] at q
      obtain ⟨_, vs, hs, rs⟩ := R.lst hl
      cases hb : bools ys with
      | none => rw [Option.bind_some, hb] at q; exact (show False from q).elim
      | some bs =>
        rw [Option.bind_some, hb] at q
        cases bools_of rs hb
        exact ⟨_, bs, rfl, hs, Aft.here R q (.bl _)⟩
  · exact (show False from q).elim
theorem ca_any : CaS C E (rAny C.K) anyM := by
  intro ρ ah H xs vs Q R r q
  unfold anyM at q
  split at q
  · rename_i m
    obtain ⟨v, rfl, rv⟩ := r.one_inv
    obtain ⟨hm, rfl⟩ := rv.obj_inv
    cases hl : lstAt ah m with
    | none => rw [hl] at q; exact (show False from q).elim
    | some ys =>
      rw [hl] at q
      obtain ⟨_, vs, hs, rs⟩ := R.lst hl
      cases hb : bools ys with
      | none => rw [Option.bind_some, hb] at q; exact (show False from q).elim
      | some bs =>
        rw [Option.bind_some, hb] at q
        cases bools_of rs hb
        exact ⟨_, bs, rfl, hs, Aft.here R q (.bl _)⟩
  · exact (show False from q).elim
theorem ca_strI : CaS C E (fun xs H Q => ∃ i : Int, xs = [.int i] ∧ i.natAbs.log2 < 1920 ∧ Q (.str (toString i : String)) H) strIM := by
  intro ρ ah H xs vs Q R r q
  unfold strIM at q
  split at q
  · obtain ⟨v, rfl, rv⟩ := r.one_inv
    cases rv.int_inv
    split at q
    · exact ⟨_, rfl, ‹_›, Aft.here R q (.str _)⟩
    · exact (show False from q).elim
  · exact (show False from q).elim
end

/-! ### methods of built-in values -/
def MtS (C : KC) (E : XK) (r : V → List V → Hp → VK → Prop) (f : AV → List AV → CM AV) : Prop := ∀ ρ ah H x xs v vs Q, Rep C ρ ah H → RV C ρ ah.length H x v → RVs C ρ ah.length H xs vs → Aft C E ρ ah.length H (f x xs ah) Q → r v vs H Q
def tyM (T : String) (x : AV) (ah : AH) : Bool := match x with
  | .str _ => T == "str"
  | .obj n => match ah[n]? with
    | some (.lst _) => T == "list"
    | some (.fls _) => T == "list"
    | some (.dct _) => T == "dict"
    | _ => false
  | _ => false
def cM (T : String) (f : AV → List AV → CM AV) (c : CE) (cs : CA) : CE := fun env => bind (c env) fun x ah => if tyM T x ah = true then bind (cs env) (f x) ah else .no
section
variable {C : KC} {E : XK} {ρ : Nat → Addr} {H : Hp} {ah : AH}
theorem ty_of {T : String} {x : AV} {v : V} (R : Rep C ρ ah H) (r : RV C ρ ah.length H x v) (h : tyM T x ah = true) : tyV C.K T v H := by
  cases x with
  | str s => cases r.str_inv; exact beq_iff_eq.mp h
  | obj n =>
    obtain ⟨hn, rfl⟩ := r.obj_inv
    unfold tyM at h
    dsimp only at h
    split at h
    · rename_i xs e
      obtain ⟨vs, h1, _⟩ := R.obj _ _ e
      exact .inl ⟨beq_iff_eq.mp h, vs, .inl (.inl h1)⟩
    · rename_i xs e
      obtain ⟨o, vs, h1, _⟩ := R.obj _ _ e
      exact .inl ⟨beq_iff_eq.mp h, vs, .inl (.inr ⟨o, h1⟩)⟩
    · rename_i kvs e
      obtain ⟨ws, h1, _⟩ := R.obj _ _ e
      exact .inr (.inr (.inl ⟨beq_iff_eq.mp h, .inl ⟨ws, h1⟩⟩))
    · cases h
  | _ => cases h
end
section
variable {X : Cx} {E : XK} {T id : String} {o e : Expr} {es : List Expr} {name : Str} {apos cpos : Pos} {c : CE} {cs : CA} {r : V → List V → Hp → VK → Prop} {f : AV → List AV → CM AV}
theorem m_cut (hf : MtS (kc X) E r f) {σ : L2.St} {H : Hp} {Q : VK} (q : tE (kc X) E (cM T f c cs) σ H Q) : tBM X.K T r (tE (kc X) E c) (tA (kc X) E cs) σ H Q := by
  obtain ⟨ρ, ah, env, R, RE, q⟩ := q
  refine ⟨ρ, ah, env, R, RE, ?_⟩
  unfold cM bind at q
  cases ha : c env ah with
  | no => rw [ha] at q; exact q
  | er x ah1 => rw [ha] at q; exact q
  | ok x ah1 =>
    rw [ha] at q
    intro ρ1 H1 v e1 R1 rv
    have q := Aft.pre e1 q
    dsimp only at q
    by_cases ht : tyM T x ah1 = true
    · rw [if_pos ht] at q
      refine ⟨ty_of R1 rv ht, ρ1, ah1, env, R1, RE.mono e1, ?_⟩
      cases hb : cs env ah1 with
      | no => rw [hb] at q; exact q
      | er x ah1 => rw [hb] at q; exact q
      | ok xs ah2 =>
        rw [hb] at q
        exact fun ρ2 H2 vs e2 R2 rs => hf ρ2 ah2 H2 x xs v vs Q R2 (rv.mono e2) rs (Aft.pre e2 q)
    · rw [if_neg ht] at q
      exact (show False from q).elim
theorem e_m (pa : PlainAttrs T) (slot : Slot T name id) (hty : typeOf (.builtin id) = pure (.type "method_descriptor")) (hm : MtR X id r) (hf : MtS (kc X) E r f) (ho : PE X o (tE (kc X) E c)) (ha : PA X (e :: es) (tA (kc X) E cs))
    (hbase : attributeBase o name X.env (eval o X.env) = eval o X.env := by rfl)
    (hfew : ((backTo cpos (starEach (e :: es) X.env)).all (fun x => !x.1) && (backToKw cpos (keywordEach [] X.env)).all (fun x => x.1.isSome)
      && decide ((e :: es).length + ([] : List Keyword).length + (if ([] : List Keyword).isEmpty then 0 else 1) < 30)) = true := by rfl)
    (hline : (apos.endLine == cpos.line) = true := by rfl) (hs : starEach (e :: es) X.env = (false, eval e X.env) :: starEach es X.env := by rfl) (hplain : (backTo cpos (starEach es X.env)).any (·.1) = false := by rfl) :
    PE X (.Call (.Attribute o name apos) (e :: es) [] cpos) (tE (kc X) E (cM T f c cs)) := pe_imp (pe_bm pa slot hty hm ho ha hbase hfew hline hs hplain) fun _ _ _ q => m_cut hf q
theorem e_m0 (pa : PlainAttrs T) (slot : Slot T name id) (hty : typeOf (.builtin id) = pure (.type "method_descriptor")) (hm : MtR X id r) (hf : MtS (kc X) E r f) (ho : PE X o (tE (kc X) E c))
    (hbase : attributeBase o name X.env (eval o X.env) = eval o X.env := by rfl) (hline : (apos.endLine == cpos.line) = true := by rfl) : PE X (.Call (.Attribute o name apos) [] [] cpos) (tE (kc X) E (cM T f c caNil)) :=
  pe_imp (pe_bm0 pa slot hty hm ho hbase hline) fun σ H Q q => by
    obtain ⟨ρ, ah, env, R, RE, z⟩ := m_cut hf q
    refine ⟨ρ, ah, env, R, RE, ?_⟩
    cases hh : c env ah with
    | no => rw [hh] at z; exact z
    | er x ah1 => rw [hh] at z; exact z
    | ok x ah1 =>
      rw [hh] at z
      intro ρ1 H1 v e1 R1 rv
      obtain ⟨t1, ρ2, ah2, env2, R2, RE2, z2⟩ := z ρ1 H1 v e1 R1 rv
      exact ⟨t1, AftA.here R2 z2 .nil⟩
end
/-! lists -/
def appM : AV → List AV → CM AV := fun x ys ah => match x, ys with
  | .obj n, [y] => match ah[n]? with
    | some (.lst xs) => if xs.length < LIM then .ok .non (ah.set n (.lst (xs ++ [y]))) else .no
    | _ => .no
  | _, _ => .no
def popM : AV → List AV → CM AV := fun x ys ah => match x, ys with
  | .obj n, [] => match ah[n]? with
    | some (.lst xs) => match xs.getLast? with
      | some y => .ok y (ah.set n (.lst xs.dropLast))
      | none => .no
    | _ => .no
  | _, _ => .no
def popAtM : AV → List AV → CM AV := fun x ys ah => match x, ys with
  | .obj n, [.int i] => match ah[n]? with
    | some (.lst xs) => if 0 ≤ i ∧ i < xs.length ∧ xs.length ≤ LIM then match xs[i.toNat]? with
      | some y => .ok y (ah.set n (.lst (xs.eraseIdx i.toNat)))
      | none => .no else .no
    | _ => .no
  | _, _ => .no
def extM : AV → List AV → CM AV := fun x ys ah => match x, ys with
  | .obj n, [.obj m] => match ah[n]?, ah[m]? with
    | some (.lst xs), some (.lst zs) => if xs.length + zs.length ≤ LIM then .ok .non (ah.set n (.lst (xs ++ zs))) else .no
    | _, _ => .no
  | _, _ => .no
section
variable {C : KC} {E : XK} {ρ : Nat → Addr} {H : Hp} {ah : AH} {Q : VK}
theorem RVs.dropLast {n : Nat} : ∀ {xs : List AV} {vs : List V}, RVs C ρ n H xs vs → RVs C ρ n H xs.dropLast vs.dropLast
  | _, _, .nil => .nil
  | _, _, .cons a .nil => .nil
  | _, _, .cons a (.cons b r) => .cons a (RVs.dropLast (.cons b r))
theorem RVs.eraseIdx {n : Nat} : ∀ {xs : List AV} {vs : List V} (i : Nat), RVs C ρ n H xs vs → RVs C ρ n H (xs.eraseIdx i) (vs.eraseIdx i)
  | _, _, _, .nil => .nil
  | _, _, 0, .cons _ b => b
  | _, _, i + 1, .cons a b => .cons a (RVs.eraseIdx i b)
/-- a list is changed -/
theorem Aft.chg {i : Nat} {xs ys : List AV} {vs ws : List V} {y : AV} {v : V} (R : Rep C ρ ah H) (e : ah[i]? = some (.lst xs)) (h : H (ρ i) = some (.lst vs)) (q : Aft C E ρ ah.length H (.ok y (ah.set i (.lst ys))) Q) (r : RVs C ρ ah.length H ys ws) (ry : RV C ρ ah.length H y v) :
    Q v (upd H (ρ i) (.lst ws)) := by
  have hi := (List.getElem?_eq_some_iff.mp e).1
  obtain ⟨R', e'⟩ := R.write (o := .lst ys) (w' := .lst ws) hi h (fun z => z) fun e => ⟨ws, upd_same, r.mono e⟩
  exact q ρ _ v e' R' (ry.mono e')
theorem ms_app : MtS C E rAppend appM := by
  intro ρ ah H x ys v vs Q R rx rs q
  unfold appM at q
  split at q
  · rename_i n y
    obtain ⟨w, rfl, rw'⟩ := rs.one_inv
    obtain ⟨hn, rfl⟩ := rx.obj_inv
    split at q
    · rename_i xs e
      obtain ⟨vs, h1, h2⟩ := R.obj _ _ e
      split at q
      · refine ⟨_, vs, w, rfl, rfl, h1, ?_, Aft.chg R e h1 q (h2.append (.cons rw' .nil)) .non⟩
        rw [← h2.length]
        exact Nat.lt_of_lt_of_le ‹_› lim_line
      · exact (show False from q).elim
    · exact (show False from q).elim
  · exact (show False from q).elim
theorem ms_pop : MtS C E rPop popM := by
  intro ρ ah H x ys v vs Q R rx rs q
  unfold popM at q
  split at q
  · rename_i n
    cases rs
    obtain ⟨hn, rfl⟩ := rx.obj_inv
    split at q
    · rename_i xs e
      obtain ⟨vs, h1, h2⟩ := R.obj _ _ e
      split at q
      · rename_i y hy
        rw [List.getLast?_eq_getElem?] at hy
        obtain ⟨w, hw, rw'⟩ := h2.get hy
        refine ⟨_, vs, w, rfl, rfl, h1, by rw [← h2.length]; exact hw, Aft.chg R e h1 q h2.dropLast rw'⟩
      · exact (show False from q).elim
    · exact (show False from q).elim
  · exact (show False from q).elim
theorem ms_popAt : MtS C E rPopAt popAtM := by
  intro ρ ah H x ys v vs Q R rx rs q
  unfold popAtM at q
  split at q
  · rename_i n i
    obtain ⟨w, rfl, rw'⟩ := rs.one_inv
    cases rw'.int_inv
    obtain ⟨hn, rfl⟩ := rx.obj_inv
    split at q
    · rename_i xs e
      obtain ⟨vs, h1, h2⟩ := R.obj _ _ e
      split at q
      · rename_i hc
        split at q
        · rename_i y hy
          obtain ⟨w, hw, rw'⟩ := h2.get hy
          have hl : LIM = 10000000 := rfl
          refine ⟨_, vs, i, i.toNat, w, rfl, rfl, h1, by omega, by omega, ?_, hw, Aft.chg R e h1 q (h2.eraseIdx _) rw'⟩
          rw [← h2.length]
          refine (ixN_seq ?_).1
          unfold ixN
          rw [if_pos hc.1, if_pos hc.2.1]
        · exact (show False from q).elim
      · exact (show False from q).elim
    · exact (show False from q).elim
  · exact (show False from q).elim
theorem ms_ext : MtS C E rExtend extM := by
  intro ρ ah H x ys v vs Q R rx rs q
  unfold extM at q
  split at q
  · rename_i n m
    obtain ⟨w, rfl, rw'⟩ := rs.one_inv
    obtain ⟨hm, rfl⟩ := rw'.obj_inv
    obtain ⟨hn, rfl⟩ := rx.obj_inv
    split at q
    · rename_i xs zs e1 e2
      obtain ⟨vs, h1, h2⟩ := R.obj _ _ e1
      obtain ⟨us, h3, h4⟩ := R.obj _ _ e2
      split at q
      · refine ⟨_, _, vs, us, rfl, rfl, h1, h3, ?_, Aft.chg R e1 h1 q (h2.append h4) .non⟩
        rw [← h2.length, ← h4.length]
        exact lim_le ‹_›
      · exact (show False from q).elim
    · exact (show False from q).elim
  · exact (show False from q).elim
end

/-! ### subscripts -/
def idxM : AV → AV → CM AV := fun x y ah => match y with
  | .int i => match x with
    | .str z => if z.length ≤ LIM then match atI z.cps.toList i with
      | some c => .ok (.str ⟨#[c]⟩) ah
      | none => .no else .no
    | _ => match seqOf x ah with
      | some xs => match atI xs i with
        | some z => .ok z ah
        | none => .no
      | none => .no
  | _ => .no
def setM (o i v : AV) (env : AEnv) : AH → Out := fun ah => match o, i with
  | .obj n, .int k => match ah[n]? with
    | some (.lst xs) => match ixN xs.length k with
      | some j => .nx env (ah.set n (.lst (xs.set j v)))
      | none => .no
    | _ => .no
  | _, _ => .no
def gSubM (co ci : CE) : CG := fun v env ah => match co env ah with
  | .no => .no
  | .er x ah1 => .er x ah1
  | .ok o ah1 => match ci env ah1 with
    | .no => .no
    | .er x ah2 => .er x ah2
    | .ok i ah2 => setM o i v env ah2
section
variable {C : KC} {E : XK}
theorem os_idx : OpS C E (rIx C.K) idxM := by
  intro ρ ah H x y vx vy Q R rx ry q
  unfold idxM at q
  split at q
  · rename_i i
    cases ry.int_inv
    split at q
    · rename_i z
      cases rx.str_inv
      split at q
      · split at q
        · exact .inr (.inr ⟨z, i, _, rfl, rfl, lim_le ‹_›, ‹_›, Aft.here R q (.str _)⟩)
        · exact (show False from q).elim
      · exact (show False from q).elim
    · split at q
      · rename_i xs hl
        split at q
        · rename_i z hz
          obtain ⟨p, vs, rfl, hs, rs⟩ := R.seq rx hl
          unfold atI at hz
          rw [rs.length] at hz
          cases hk : ixN vs.length i with
          | none => rw [hk] at hz; cases hz
          | some j =>
            rw [hk, Option.bind_some] at hz
            obtain ⟨w, hw, rw'⟩ := rs.get hz
            have ha : atI vs i = some w := by unfold atI; rw [hk, Option.bind_some]; exact hw
            have q := Aft.here R q rw'
            rcases hs with hs | hs
            · exact .inr (.inl ⟨p, vs, i, w, rfl, rfl, hs, ha, q⟩)
            · exact .inl ⟨p, vs, i, w, rfl, rfl, hs, ha, q⟩
        · exact (show False from q).elim
      · exact (show False from q).elim
  · exact (show False from q).elim
end
section
variable {X : Cx} {E : XK} {pos : Pos} {o i a b : Expr} {co ci ca cb : CE} {S : List Nat}
theorem e_idx (ha : PE X a (tE (kc X) E ca)) (hb : PE X b (tE (kc X) E cb)) (hs : PlainIx b) : PE X (.Subscript a b pos) (tE (kc X) E (cOp idxM ca cb)) := pe_imp (pe_ix ix_seq ha hb hs) fun _ _ _ q => op_cut os_idx q
theorem h_sub (ho : PE X o (tE (kc X) E co)) (hi : PE X i (tE (kc X) E ci))
    (ha : ∀ v, assign (.Subscript o i pos) X.env v = (do
      let ov ← holding [v] (eval o X.env)
      let iv ← holding [v, ov] (eval i X.env)
      standAt pos
      holding [v, ov, iv] (setItem ov iv v)
      release [v, ov, iv] []) := by intro _; rfl) : PG X (.Subscript o i pos) (tGs (kc X) E (gSubM co ci) S) := pg_imp (pg_sub ho hi set_list ha) fun v σ H Q ⟨ρ, ah, env, x, R, RE, r, q⟩ => by
  refine ⟨ρ, ah, env, R, RE, ?_⟩
  unfold gSubM at q
  cases ha : co env ah with
  | no => rw [ha] at q; exact q
  | er x ah1 => rw [ha] at q; exact q
  | ok ov ah1 =>
    rw [ha] at q
    intro ρ1 H1 v1 e1 R1 r1
    refine ⟨ρ1, ah1, env, R1, RE.mono e1, ?_⟩
    have q := AftS.pre e1 q
    dsimp only at q
    cases hb : ci env ah1 with
    | no => rw [hb] at q; exact q
    | er x ah1 => rw [hb] at q; exact q
    | ok iv ah2 =>
      rw [hb] at q
      intro ρ2 H2 v2 e2 R2 r2
      have q := AftS.pre e2 q
      have r1 := r1.mono e2
      have r := (r.mono e1).mono e2
      have RE := (RE.mono e1).mono e2
      dsimp only at q
      have q : AftS (kc X) E ρ2 ah2.length H2 (setM ov iv x env ah2) (EndG S σ Q) := q
      cases ov with
      | obj n => cases iv with
        | int kk =>
          obtain ⟨hn, rfl⟩ := r1.obj_inv
          cases r2.int_inv
          unfold setM at q
          dsimp only at q
          split at q
          · rename_i xs e
            obtain ⟨vs, h1, h2⟩ := R2.obj _ _ e
            split at q
            · rename_i j hj
              rw [h2.length] at hj
              refine ⟨_, vs, kk, j, rfl, rfl, h1, hj, ?_⟩
              obtain ⟨R', e'⟩ := R2.write (o := .lst (xs.set j x)) (w' := .lst (vs.set j v)) hn h1 (fun z => z) fun e => ⟨_, upd_same, (h2.set j r).mono e⟩
              exact q ρ2 _ σ e' R' (RE.mono e') .refl
            · exact (show False from q).elim
          · exact (show False from q).elim
        | _ => exact (show False from q).elim
      | _ => exact (show False from q).elim
end
/-! ### slices -/
abbrev CO := AEnv → CM (Option Int)
def cPart (c : CE) : CO := fun env => bind (c env) fun x => match x with
  | .int i => ret (some i)
  | _ => no
def cNoPart : CO := fun _ => ret none
def cutA (xs : List AV) (lo hi : Option Int) : List AV := (xs.drop (HT.sIx xs.length 0 lo)).take (HT.sIx xs.length xs.length hi - HT.sIx xs.length 0 lo)
def cSlL (c : CE) (l h : CO) : CE := fun env => bind (c env) fun x => bind (l env) fun lo => bind (h env) fun hi => fun ah => match x with
  | .obj n => match lstAt ah n with
    | some xs => .ok (.obj ah.length) (ah ++ [.lst (cutA xs lo hi)])
    | none => .no
  | .fl xs => .ok (.obj ah.length) (ah ++ [.lst (cutA (xs.map AV.int) lo hi)])
  | _ => .no
def cSlT (c : CE) (l h : CO) : CE := fun env => bind (c env) fun x => bind (l env) fun lo => bind (h env) fun hi => fun ah => match x with
  | .tup xs => if HT.sIx xs.length 0 lo = 0 ∧ HT.sIx xs.length xs.length hi = xs.length then .no else .ok (.tup (cutA xs lo hi)) ah
  | _ => .no
def tO (C : KC) (E : XK) (c : CO) : TO := fun σ H Q => ∃ ρ ah env, Rep C ρ ah H ∧ REnv C ρ ah.length H env σ ∧ match c env ah with
  | .no => False
  | .ok o ah1 => ∀ ρ' H', Ext ρ ah.length H ρ' ah1.length H' → Rep C ρ' ah1 H' → Q o H'
  | .er x ah1 => ErrOk C E ρ ah.length H x ah1
section
variable {C : KC} {E : XK} {ρ : Nat → Addr} {n : Nat} {H : Hp}
theorem RVs.ints : ∀ xs : List Int, RVs C ρ n H (xs.map AV.int) (xs.map V.int)
  | [] => .nil
  | x :: xs => .cons (.int x) (RVs.ints xs)
theorem cut_rel {xs : List AV} {vs : List V} (r : RVs C ρ n H xs vs) (lo hi : Option Int) : RVs C ρ n H (cutA xs lo hi) (cutV vs lo hi) := by
  unfold cutA cutV
  rw [r.length]
  exact (r.drop _).take _
end
section
variable {X : Cx} {E : XK} {pos p2 : Pos} {e : Expr} {lo hi : Option Expr} {c : CE} {l h : CO}
theorem po_imp {o : Option Expr} {t t' : TO} (h : PO X o t) (k : ∀ σ H Q, t' σ H Q → t σ H Q) : PO X o t' := ⟨fun pins s σ H Q I q => h.run pins s σ H Q I (k σ H Q q)⟩
theorem o_none : PO X none (tO (kc X) E cNoPart) := po_imp po_none fun σ H Q ⟨ρ, ah, env, R, RE, q⟩ => q ρ H .refl R
theorem o_some {a : Expr} (ha : PE X a (tE (kc X) E c)) : PO X (some a) (tO (kc X) E (cPart c)) := po_imp (po_some ha) fun σ H Q ⟨ρ, ah, env, R, RE, q⟩ => by
  refine ⟨ρ, ah, env, R, RE, ?_⟩
  unfold cPart bind at q
  cases ha : c env ah with
  | no => rw [ha] at q; exact q
  | er x ah1 => rw [ha] at q; exact q
  | ok x ah1 =>
    rw [ha] at q
    intro ρ1 H1 v e1 R1 r
    cases x with
    | int i => exact ⟨i, r.int_inv, q ρ1 H1 e1 R1⟩
    | _ => exact (show False from q).elim
theorem sl_cut {rr : V → Option Int → Option Int → Hp → VK → Prop} {m : AV → Option Int → Option Int → CM AV}
    (hf : ∀ ρ ah H x v lo hi Q, Rep (kc X) ρ ah H → RV (kc X) ρ ah.length H x v → Aft (kc X) E ρ ah.length H (m x lo hi ah) Q → rr v lo hi H Q) {σ : L2.St} {H : Hp} {Q : VK}
    (q : tE (kc X) E (fun env => bind (c env) fun x => bind (l env) fun lo => bind (h env) fun hi => m x lo hi) σ H Q) : tSl rr (tE (kc X) E c) (tO (kc X) E l) (tO (kc X) E h) σ H Q := by
  obtain ⟨ρ, ah, env, R, RE, q⟩ := q
  refine ⟨ρ, ah, env, R, RE, ?_⟩
  unfold bind at q
  dsimp only at q
  cases ha : c env ah with
  | no => rw [ha] at q; exact q
  | er x ah1 => rw [ha] at q; exact q
  | ok x ah1 =>
    rw [ha] at q
    intro ρ1 H1 v e1 R1 r
    refine ⟨ρ1, ah1, env, R1, RE.mono e1, ?_⟩
    have q := Aft.pre e1 q
    dsimp only at q
    cases hb : l env ah1 with
    | no => rw [hb] at q; exact q
    | er x ah1 => rw [hb] at q; exact q
    | ok lo ah2 =>
      rw [hb] at q
      intro ρ2 H2 e2 R2
      refine ⟨ρ2, ah2, env, R2, (RE.mono e1).mono e2, ?_⟩
      have q := Aft.pre e2 q
      dsimp only at q
      cases hd : h env ah2 with
      | no => rw [hd] at q; exact q
      | er x ah1 => rw [hd] at q; exact q
      | ok hi ah3 =>
        rw [hd] at q
        intro ρ3 H3 e3 R3
        exact hf ρ3 ah3 H3 x v lo hi Q R3 ((r.mono e2).mono e3) (Aft.pre e3 q)
theorem e_slL (he : PE X e (tE (kc X) E c)) (hl : PO X lo (tO (kc X) E l)) (hu : PO X hi (tO (kc X) E h)) : PE X (.Subscript e (.Slice lo hi none p2) pos) (tE (kc X) E (cSlL c l h)) := pe_imp (pe_slice sl_list he hl hu) fun σ H Q q => by
  refine sl_cut (m := fun x lo hi ah => match x with
    | .obj n => match lstAt ah n with
      | some xs => .ok (.obj ah.length) (ah ++ [.lst (cutA xs lo hi)])
      | none => .no
    | .fl xs => .ok (.obj ah.length) (ah ++ [.lst (cutA (xs.map AV.int) lo hi)])
    | _ => .no) (fun ρ ah H x v lo hi Q R r q => ?_) q
  cases x with
  | fl xs =>
    obtain ⟨p, rfl, h1⟩ := r.fl_inv
    exact ⟨_, _, rfl, h1.l, Aft.lst R q (cut_rel (RVs.ints xs) lo hi)⟩
  | obj n =>
    obtain ⟨hn, rfl⟩ := r.obj_inv
    dsimp only at q
    cases hl : lstAt ah n with
    | none => rw [hl] at q; exact (show False from q).elim
    | some xs =>
      rw [hl] at q
      obtain ⟨_, vs, hs, rs⟩ := R.lst hl
      exact ⟨_, vs, rfl, hs, Aft.lst R q (cut_rel rs lo hi)⟩
  | _ => exact (show False from q).elim
theorem e_slT (he : PE X e (tE (kc X) E c)) (hl : PO X lo (tO (kc X) E l)) (hu : PO X hi (tO (kc X) E h)) : PE X (.Subscript e (.Slice lo hi none p2) pos) (tE (kc X) E (cSlT c l h)) := pe_imp (pe_slice sl_tupN he hl hu) fun σ H Q q => by
  refine sl_cut (m := fun x lo hi ah => match x with
    | .tup xs => if HT.sIx xs.length 0 lo = 0 ∧ HT.sIx xs.length xs.length hi = xs.length then .no else .ok (.tup (cutA xs lo hi)) ah
    | _ => .no) (fun ρ ah H x v lo hi Q R r q => ?_) q
  cases x with
  | tup xs =>
    obtain ⟨p, vs, rfl, hs, rs⟩ := r.tup_inv
    dsimp only at q
    split at q
    · exact (show False from q).elim
    · rename_i hne
      rw [rs.length] at hne
      exact ⟨p, vs, rfl, hs, hne, Aft.tup R q (cut_rel rs lo hi)⟩
  | _ => exact (show False from q).elim
end
end Sm

set_option Elab.async false
set_option linter.all false
set_option maxRecDepth 100000
set_option maxHeartbeats 4000000
namespace Sm
open PySem PySem.Spec PyProof.Rows L2

/-! ### attributes -/
def putA (f : Str) (y : AV) : List (Str × AV) → List (Str × AV)
  | [] => [(f, y)]
  | (g, x) :: r => if g = f then (g, y) :: r else (g, x) :: putA f y r
def fldM (cs : List Str) (f : Str) (x : AV) : CM AV := fun ah => match x with
  | .obj n => match ah[n]? with
    | some (.ins c fs) => if c ∈ cs then match fs.lookup f with
      | some y => .ok y ah
      | none => .no else .no
    | _ => .no
  | _ => .no
def cFld (cs : List Str) (f : Str) (c : CE) : CE := fun env => bind (c env) (fldM cs f)
def cSetF (cs : List Str) (f : Str) (cv co : CE) : CS := fun env ah => match cv env ah with
  | .no => .no
  | .er x ah1 => .er x ah1
  | .ok y ah1 => match co env ah1 with
    | .no => .no
    | .er x ah2 => .er x ah2
    | .ok o ah2 => match o with
      | .obj n => match ah2[n]? with
        | some (.ins c fs) => if c ∈ cs ∧ fs.length < 999 then .nx env (ah2.set n (.ins c (putA f y fs))) else .no
        | _ => .no
      | _ => .no
/-- the classes whose instances may have the attribute -/
def ClsOf (C : KC) (cs : List Str) (f : Str) : Prop := ∀ c ∈ cs, ∀ a, C.mg c = some (.ref a) → Cls C.K a ∧ NoAttr C.K a f
section
variable {C : KC} {ρ : Nat → Addr} {n : Nat} {H : Hp} {f : Str} {y : AV} {v : V}
theorem kvs_lookup : ∀ {fs : List (Str × AV)} {ws : List (Str × V)}, KVs C ρ n H fs ws → fs.lookup f = some y → ∃ v, ws.lookup f = some v ∧ RV C ρ n H y v
  | [], _, _, h => by cases h
  | (g, x) :: r, [], h, _ => by
    have := h.1
    cases this
  | (g, x) :: r, (g', u) :: s, h, e => by
    obtain ⟨h1, h2⟩ := h
    simp only [List.map_cons, List.cons.injEq] at h1
    obtain ⟨rfl, h1⟩ := h1
    simp only [List.map_cons] at h2
    cases h2 with
    | cons r1 r2 =>
      rw [List.lookup_cons] at e ⊢
      cases hq : f == g with
      | true => rw [hq] at e; cases e; exact ⟨u, rfl, r1⟩
      | false => rw [hq] at e; exact kvs_lookup ⟨h1, r2⟩ e
theorem kvs_lookup_none : ∀ {fs : List (Str × AV)} {ws : List (Str × V)}, KVs C ρ n H fs ws → fs.lookup f = none → ws.lookup f = none
  | [], [], _, h => rfl
  | [], _ :: _, h, _ => by
    have := h.1
    cases this
  | (g, x) :: r, [], h, _ => rfl
  | (g, x) :: r, (g', u) :: s, h, e => by
    obtain ⟨h1, h2⟩ := h
    simp only [List.map_cons, List.cons.injEq] at h1
    obtain ⟨rfl, h1⟩ := h1
    simp only [List.map_cons] at h2
    cases h2 with
    | cons r1 r2 =>
      rw [List.lookup_cons] at e ⊢
      cases hq : f == g with
      | true => rw [hq] at e; cases e
      | false => rw [hq] at e; exact kvs_lookup_none ⟨h1, r2⟩ e
theorem kvs_put (ry : RV C ρ n H y v) : ∀ {fs : List (Str × AV)} {ws : List (Str × V)}, KVs C ρ n H fs ws → KVs C ρ n H (putA f y fs) (putF f v ws)
  | [], [], _ => ⟨rfl, .cons ry .nil⟩
  | [], _ :: _, h => by
    have := h.1
    cases this
  | (g, x) :: r, [], h => by
    have := h.1
    cases this
  | (g, x) :: r, (g', u) :: s, h => by
    obtain ⟨h1, h2⟩ := h
    simp only [List.map_cons, List.cons.injEq] at h1
    obtain ⟨rfl, h1⟩ := h1
    simp only [List.map_cons] at h2
    cases h2 with
    | cons r1 r2 =>
      have ih := kvs_put ry (fs := r) (ws := s) ⟨h1, r2⟩
      show KVs C ρ n H (if g = f then (g, y) :: r else (g, x) :: putA f y r) (if g = f then (g, v) :: s else (g, u) :: putF f v s)
      by_cases q : g = f
      · rw [if_pos q, if_pos q]
        exact ⟨by rw [List.map_cons, List.map_cons, h1], .cons ry r2⟩
      · rw [if_neg q, if_neg q]
        exact ⟨by rw [List.map_cons, List.map_cons, ih.1], .cons r1 ih.2⟩
theorem KVs.len {κ : Type} {fs : List (κ × AV)} {ws : List (κ × V)} (h : KVs C ρ n H fs ws) : fs.length = ws.length := by
  have := congrArg List.length h.1
  simpa using this
theorem KVs.mono {ρ' : Nat → Addr} {n' : Nat} {H' : Hp} {κ : Type} {fs : List (κ × AV)} {ws : List (κ × V)} (h : KVs C ρ n H fs ws) (e : Ext ρ n H ρ' n' H') : KVs C ρ' n' H' fs ws := ⟨h.1, h.2.mono e⟩
/-- an instance that may be read -/
theorem Rep.ins {ah : AH} (R : Rep C ρ ah H) {i : Nat} {c : Str} {fs : List (Str × AV)} (h : ah[i]? = some (.ins c fs)) : i < ah.length ∧ ∃ Ca dx ws, C.mg c = some (.ref Ca) ∧ H (ρ i) = some (.ins Ca dx ws) ∧ KVs C ρ ah.length H fs ws :=
  ⟨(List.getElem?_eq_some_iff.mp h).1, R.obj i _ h⟩
end
section
variable {X : Cx} {E : XK} {pos pos' : Pos} {e o value : Expr} {c cv co : CE} {cs : List Str} {f : Str}
theorem e_fld (hc : ClsOf (kc X) cs f) (he : PE X e (tE (kc X) E c)) (hb : attributeBase e f X.env (eval e X.env) = eval e X.env := by rfl) : PE X (.Attribute e f pos) (tE (kc X) E (cFld cs f c)) := pe_imp (pe_fld he hb) fun σ H Q ⟨ρ, ah, env, R, RE, q⟩ => by
  refine ⟨ρ, ah, env, R, RE, ?_⟩
  unfold cFld bind at q
  cases ha : c env ah with
  | no => rw [ha] at q; exact q
  | er x ah1 => rw [ha] at q; exact q
  | ok x ah1 =>
    rw [ha] at q
    intro ρ1 H1 v e1 R1 r
    replace q := Aft.pre e1 q
    dsimp only at q
    cases x with
    | obj i =>
      obtain ⟨hi, rfl⟩ := r.obj_inv
      unfold fldM at q
      dsimp only at q
      split at q
      · rename_i cl fs hx
        split at q
        · rename_i hm
          split at q
          · rename_i y hy
            obtain ⟨_, Ca, dx, ws, h1, h2, h3⟩ := R1.ins hx
            obtain ⟨v, hv, rv⟩ := kvs_lookup h3 hy
            obtain ⟨k1, k2⟩ := hc cl hm Ca h1
            exact ⟨_, Ca, dx, ws, v, rfl, h2, k1, k2, hv, Aft.here R1 q rv⟩
          · exact (show False from q).elim
        · exact (show False from q).elim
      · exact (show False from q).elim
    | _ => exact (show False from q).elim
theorem s_fld (hc : ClsOf (kc X) cs f) (ha : PE X o (tE (kc X) E co)) (hv : PE X value (tE (kc X) E cv)) (hs : swapsWith value (some (.Attribute o f pos')) pos.line X.env = pure false := by rfl) : PS X (.Assign [.Attribute o f pos'] value pos) (tS (kc X) E (cSetF cs f cv co)) :=
  ps_imp (ps_fld ha hv hs) fun D σ H ⟨ρ, ah, env, R, RE, q⟩ => by
    refine ⟨ρ, ah, env, R, RE, ?_⟩
    unfold cSetF at q
    cases ha : cv env ah with
    | no => rw [ha] at q; exact q
    | er x ah1 => rw [ha] at q; exact q
    | ok y ah1 =>
      rw [ha] at q
      intro ρ1 H1 v e1 R1 ry
      refine ⟨ρ1, ah1, env, R1, RE.mono e1, ?_⟩
      replace q := AftS.pre e1 q
      dsimp only at q
      cases hb : co env ah1 with
      | no => rw [hb] at q; exact q
      | er x ah1 => rw [hb] at q; exact q
      | ok x ah2 =>
        rw [hb] at q
        intro ρ2 H2 w e2 R2 rx
        replace q := AftS.pre e2 q
        have RE2 := (RE.mono e1).mono e2
        have ry := ry.mono e2
        dsimp only at q
        cases x with
        | obj i =>
          obtain ⟨hi, rfl⟩ := rx.obj_inv
          dsimp only at q
          split at q
          · rename_i cl fs hx
            split at q
            · rename_i hm
              obtain ⟨_, Ca, dx, ws, h1, h2, h3⟩ := R2.ins hx
              obtain ⟨k1, k2⟩ := hc cl hm.1 Ca h1
              refine ⟨_, Ca, dx, ws, rfl, h2, k1, k2, by rw [← h3.len]; omega, ?_⟩
              obtain ⟨R', e'⟩ := R2.write (o := .ins cl (putA f y fs)) (w' := .ins Ca dx (putF f v ws)) hi h2 (fun z => z) fun e => ⟨Ca, dx, _, h1, upd_same, (kvs_put ry h3).mono e⟩
              exact q ρ2 _ σ e' R' (RE2.mono e')
            · exact (show False from q).elim
          · exact (show False from q).elim
        | _ => exact (show False from q).elim
end

/-! ### making an instance -/
def makeM (c : Str) (n : Nat) (m : List AV → CM AV) (xs : List AV) : CM AV := fun ah => if xs.length + 1 = n then match m (.obj ah.length :: xs) (ah ++ [.ins c []]) with
  | .ok .non ah1 => .ok (.obj ah.length) ah1
  | .er x ah1 => .er x ah1
  | _ => .no else .no
def cMake (c : Str) (n : Nat) (m : List AV → CM AV) (da : List AV) (cs : CA) : CE := fun env => bind (cs env) fun xs => makeM c n m (xs ++ da)
section
variable {C : KC} {E : XK} {ρ : Nat → Addr} {H : Hp} {ah : AH} {Q : VK} {xs : List AV} {vs : List V} {c : Str} {n : Nat} {m : List AV → CM AV} {Ca : Addr}
theorem make_cut (R : Rep C ρ ah H) (rs : RVs C ρ ah.length H xs vs) (hm : C.mg c = some (.ref Ca)) (q : Aft C E ρ ah.length H (makeM c n m xs ah) Q) :
    ∀ x dx, H x = none → H dx = none → dx ≠ x → spM C n m (.ref x :: vs) (upd (upd H dx (.own x)) x (.ins Ca dx [])) (fun v H2 => v = .non ∧ Q (.ref x) H2) E := by
  intro x dx hx hdx ne
  unfold makeM at q
  split at q
  · rename_i hl
    have k : ∀ b w, H b = some w → upd (upd H dx (.own x)) x (.ins Ca dx []) b = some w := fun b w hb => by rw [upd_ne (ne_of_none hb hx), upd_ne (ne_of_none hb hdx)]; exact hb
    have e : Ext ρ ah.length H (rput ρ ah.length x) (ah.length + 1) (upd (upd H dx (.own x)) x (.ins Ca dx [])) := .alloc k hx
    have hlen : (ah ++ [AO.ins c []]).length = ah.length + 1 := by simp
    have R' := R.alloc (o := .ins c []) k hx ⟨Ca, dx, [], hm, upd_same, rfl, .nil⟩
    have z : RV C (rput ρ ah.length x) (ah.length + 1) (upd (upd H dx (.own x)) x (.ins Ca dx [])) (.obj ah.length) (.ref (rput ρ ah.length x ah.length)) := .obj (Nat.lt_succ_self _)
    refine ⟨_, _, .obj ah.length :: xs, R', ?_, by rw [List.length_cons]; exact hl, ?_⟩
    · rw [hlen]
      have z' := z
      rw [rput_same] at z'
      exact .cons z' (rs.mono e)
    · rw [hlen]
      cases hh : m (.obj ah.length :: xs) (ah ++ [.ins c []]) with
      | no => rw [hh] at q; exact q
      | er y ah1 => rw [hh] at q; exact Aft.pre e q
      | ok y ah1 =>
        rw [hh] at q
        intro ρ1 H1 v e1 R1 r
        cases y with
        | non =>
          refine ⟨r.non_inv, q ρ1 H1 _ (e.trans e1) R1 ?_⟩
          have z1 := z.mono e1
          rw [rput_same] at z1
          exact z1
        | _ => exact (show False from q).elim
  · exact (show False from q).elim
end
section
variable {X : Cx} {E : XK} {x : Str} {p pos : Pos} {e : Expr} {es : List Expr} {cs : CA} {CXp : CXT} {k n : Nat} {f Ca : Addr} {fd : FuncData} {ps : List Str} {ds : List Value} {dvs : List V} {da : List AV} {m : List AV → CM AV}
theorem cmake_cut (hm : X.mg x = some (.ref Ca)) (hD : RDs (kc X) da dvs) {σ : L2.St} {H : Hp} {Q : VK} (q : tE (kc X) E (cMake x n m da cs) σ H Q) : tMake Ca (spM (kc X) n m) dvs E (tA (kc X) E cs) σ H Q := by
  obtain ⟨ρ, ah, env, R, RE, q⟩ := q
  refine ⟨ρ, ah, env, R, RE, ?_⟩
  unfold cMake bind at q
  cases ha : cs env ah with
  | no => rw [ha] at q; exact q
  | er x ah1 => rw [ha] at q; exact q
  | ok xs ah1 =>
    rw [ha] at q
    intro ρ1 H1 vs e1 R1 r
    exact make_cut R1 (r.append (hD _ _ _)) hm (Aft.pre e1 q)
theorem e_make (M : Mk X.K Ca f) (F : FnOk X.prog X.w X.K X.mg X.base CXp k f fd ps (spM (kc X) n m)) (hr : Room (k + 1) X.A) (hg : Gl X x) (hm : X.mg x = some (.ref Ca)) (hb : Binds X.K fd ps ds) (hd : Vals dvs ds) (hD : RDs (kc X) da dvs) (hx : Passes CXp X E)
    (ha : PA X (e :: es) (tA (kc X) E cs)) (hdb : (x == ("__debug__" : Str)) = false := by decide) (he : starEach (e :: es) X.env = (false, eval e X.env) :: starEach es X.env := by rfl) (hpl : (backTo pos (starEach es X.env)).any (·.1) = false := by rfl) :
    PE X (.Call (.Name x p) (e :: es) [] pos) (tE (kc X) E (cMake x n m da cs)) := pe_imp (pe_make M F hr hg hm hb hd hx ha hdb he hpl) fun _ _ _ q => cmake_cut hm hD q
theorem e_make0 (M : Mk X.K Ca f) (F : FnOk X.prog X.w X.K X.mg X.base CXp k f fd ps (spM (kc X) n m)) (hr : Room (k + 1) X.A) (hg : Gl X x) (hm : X.mg x = some (.ref Ca)) (hb : Binds X.K fd ps ds) (hd : Vals dvs ds) (hD : RDs (kc X) da dvs) (hx : Passes CXp X E)
    (hdb : (x == ("__debug__" : Str)) = false := by decide) : PE X (.Call (.Name x p) [] [] pos) (tE (kc X) E (cMake x n m da caNil)) := pe_imp (pe_make0 M F hr hg hm hb hd hx hdb) fun σ H Q q => by
  obtain ⟨ρ, ah, env, R, RE, q⟩ := cmake_cut hm hD q
  exact AftA.here R q .nil
end

/-! ### methods -/
def cMeth (c : Str) (mn : Str) (n : Nat) (m : List AV → CM AV) (da : List AV) (co : CE) (cs : CA) : CE := fun env => bind (co env) fun x ah => match x with
  | .obj i => match ah[i]? with
    | some (.ins c' fs) => if c' = c ∧ fs.lookup mn = none then bind (cs env) (fun xs => if xs.length + da.length + 1 = n then m (x :: (xs ++ da)) else no) ah else .no
    | _ => .no
  | _ => .no
section
variable {X : Cx} {E : XK} {x mn c : Str} {p apos pos : Pos} {o e : Expr} {es : List Expr} {co : CE} {cs : CA} {CXp : CXT} {k n : Nat} {f Ca : Addr} {fd : FuncData} {ps : List Str} {ds : List Value} {dvs : List V} {da : List AV} {m : List AV → CM AV} {pl : Sem Bool}
theorem meth_cut (hm : X.mg c = some (.ref Ca)) (hD : RDs (kc X) da dvs) {σ : L2.St} {H : Hp} {Q : VK} (q : tE (kc X) E (cMeth c mn n m da co cs) σ H Q) : tMeth Ca mn (spM (kc X) n m) dvs E (tE (kc X) E co) (tA (kc X) E cs) σ H Q := by
  obtain ⟨ρ, ah, env, R, RE, q⟩ := q
  refine ⟨ρ, ah, env, R, RE, ?_⟩
  unfold cMeth bind at q
  cases ha : co env ah with
  | no => rw [ha] at q; exact q
  | er x ah1 => rw [ha] at q; exact q
  | ok x ah1 =>
    rw [ha] at q
    intro ρ1 H1 v e1 R1 r
    replace q := Aft.pre e1 q
    dsimp only at q
    cases x with
    | obj i =>
      obtain ⟨hi, rfl⟩ := r.obj_inv
      dsimp only at q
      split at q
      · rename_i c' fs hx
        split at q
        · rename_i hc
          obtain ⟨rfl, hl⟩ := hc
          obtain ⟨_, Ca', dx, ws, h1, h2, h3⟩ := R1.ins hx
          have : Ca' = Ca := by
            have z := (show (kc X).mg c' = some (.ref Ca') from h1).symm.trans hm
            simpa using z
          subst this
          refine ⟨_, dx, ws, rfl, h2, kvs_lookup_none h3 hl, ρ1, ah1, env, R1, RE.mono e1, ?_⟩
          cases hb : cs env ah1 with
          | no => rw [hb] at q; exact q
          | er x ah1 => rw [hb] at q; exact q
          | ok xs ah2 =>
            rw [hb] at q
            intro ρ2 H2 vs e2 R2 rs
            replace q := Aft.pre e2 q
            dsimp only at q
            split at q
            · rename_i hl
              exact ⟨ρ2, ah2, .obj i :: (xs ++ da), R2, .cons (r.mono e2) (rs.append (hD _ _ _)), by rw [List.length_cons, List.length_append]; exact hl, q⟩
            · exact (show False from q).elim
        · exact (show False from q).elim
      · exact (show False from q).elim
    | _ => exact (show False from q).elim
theorem e_meth (he : PE X o (tE (kc X) E co)) (cl : Cls X.K Ca) (hmt : Meth X.K Ca mn f) (hm : X.mg c = some (.ref Ca)) (F : FnOk X.prog X.w X.K X.mg X.base CXp k f fd ps (spM (kc X) n m)) (hr : Room k X.A) (hb : Binds X.K fd ps ds) (hd : Vals dvs ds) (hD : RDs (kc X) da dvs) (hx : Passes CXp X E) (ha : PA X (e :: es) (tA (kc X) E cs))
    (hst : starEach (e :: es) X.env = (false, eval e X.env) :: starEach es X.env := by rfl) (hpl : (backTo pos (starEach es X.env)).any (·.1) = false := by rfl)
    (ht : eval (.Call (.Attribute o mn apos) (e :: es) [] pos) X.env = (do
      let ov ← eval o X.env
      standAt apos.atName
      let (f, first) ← holding [ov] (getMethod ov mn pl)
      callWith pos f first (backTo pos (starEach (e :: es) X.env)) (backToKw pos (keywordEach [] X.env))) := by rfl) :
    PE X (.Call (.Attribute o mn apos) (e :: es) [] pos) (tE (kc X) E (cMeth c mn n m da co cs)) := pe_imp (pe_meth he cl hmt F hr hb hd hx ha hst hpl ht) fun _ _ _ q => meth_cut hm hD q
theorem e_meth0 (he : PE X o (tE (kc X) E co)) (cl : Cls X.K Ca) (hmt : Meth X.K Ca mn f) (hm : X.mg c = some (.ref Ca)) (F : FnOk X.prog X.w X.K X.mg X.base CXp k f fd ps (spM (kc X) n m)) (hr : Room k X.A) (hb : Binds X.K fd ps ds) (hd : Vals dvs ds) (hD : RDs (kc X) da dvs) (hx : Passes CXp X E)
    (ht : eval (.Call (.Attribute o mn apos) [] [] pos) X.env = (do
      let ov ← eval o X.env
      standAt apos.atName
      let (f, first) ← holding [ov] (getMethod ov mn pl)
      callWith pos f first (backTo pos (starEach [] X.env)) (backToKw pos (keywordEach [] X.env))) := by rfl) :
    PE X (.Call (.Attribute o mn apos) [] [] pos) (tE (kc X) E (cMeth c mn n m da co caNil)) := pe_imp (pe_meth0 he cl hmt F hr hb hd hx ht) fun σ H Q q => by
  have z := meth_cut hm hD q
  obtain ⟨ρ, ah, env, R, RE, z⟩ := z
  refine ⟨ρ, ah, env, R, RE, ?_⟩
  cases hh : co env ah with
  | no => rw [hh] at z; exact z
  | er x ah1 => rw [hh] at z; exact z
  | ok x ah1 =>
    rw [hh] at z
    intro ρ1 H1 v e1 R1 rv
    obtain ⟨a, dx, fs, h1, h2, h3, ρ2, ah2, env2, R2, RE2, z2⟩ := z ρ1 H1 v e1 R1 rv
    exact ⟨a, dx, fs, h1, h2, h3, AftA.here R2 z2 .nil⟩
end
end Sm

set_option Elab.async false
set_option linter.all false
set_option maxRecDepth 100000
set_option maxHeartbeats 4000000
namespace Sm
open PySem PySem.Spec PyProof.Rows L2

/-! ### isinstance -/
inductive TgV (C : KC) : Tg → Value → Prop where
  | bi (s : String) : TgV C (.bi s) (.type s)
  | own {c : Str} {a : Addr} : C.mg c = some (.ref a) → TgV C (.own c) (.ref a)
def tagOf (x : AV) (ah : AH) : Option Tg := match x with
  | .non => some (.bi "NoneType")
  | .bl _ => some (.bi "bool")
  | .int _ => some (.bi "int")
  | .str _ => some (.bi "str")
  | .tup _ => some (.bi "tuple")
  | .obj n => match ah[n]? with
    | some (.lst _) => some (.bi "list")
    | some (.fls _) => some (.bi "list")
    | some (.dct _) => some (.bi "dict")
    | some (.ins c _) => some (.own c)
    | none => none
  | _ => none
def clsTg : AV → Option Tg
  | .ty n => some (.bi n)
  | .glo c => some (.own c)
  | _ => none
def clsTgs : List AV → Option (List Tg)
  | [] => some []
  | x :: r => match clsTg x, clsTgs r with
    | some t, some ts => some (t :: ts)
    | _, _ => none
def tabGet (tb : ITab) (a b : Tg) : Option Bool := match tb with
  | [] => none
  | (x, y, r) :: m => if x = a ∧ y = b then some r else tabGet m a b
def isOne (tb : ITab) (a b : Tg) : Option Bool := match a, b with
  | .bi x, .bi y => kitB x y
  | _, _ => tabGet tb a b
def isAny (tb : ITab) (a : Tg) : List Tg → Option Bool
  | [] => some false
  | b :: r => match isOne tb a b with
    | some true => some true
    | some false => isAny tb a r
    | none => none
def TabOk (C : KC) (tb : ITab) : Prop := ∀ a b r, tabGet tb a b = some r → ∀ t u, TgV C a t → TgV C b u → PySem.W.kitOne C.K t u = some r
/-- instances of these classes may be asked for their class -/
def InsTy (C : KC) (cs : List Str) : Prop := ∀ c ∈ cs, ∀ a, C.mg c = some (.ref a) → Cls C.K a ∧ PySem.W.findIn C.K (.ref a) "__class__" = some (some (.builtin "object.__class__")) ∧ PySem.W.specialIn C.K (.builtin "object.__class__") "__get__" = some (some (.builtin "getset_descriptor.__get__")) ∧
  PySem.W.takesIn C.K (.builtin "object.__class__") = some true ∧ PySem.W.mroIn C.K a (.type "object") = some true
def isiM (tb : ITab) (cs : List Str) : List AV → CM AV := fun xs ah => match xs with
  | [x, c] => match tagOf x ah with
    | some tg => if tagIn cs tg = true then match c with
      | .tup ys => match clsTgs ys with
        | some ts => match isAny tb tg ts with
          | some b => .ok (.bl b) ah
          | none => .no
        | none => .no
      | _ => match clsTg c with
        | some t => match isOne tb tg t with
          | some b => .ok (.bl b) ah
          | none => .no
        | none => .no else .no
    | none => .no
  | _ => .no
section
variable {C : KC} {E : XK} {tb : ITab} {cs : List Str}
theorem isOne_ok (hb : TabOk C tb) {a b : Tg} {t u : Value} {r : Bool} (h : isOne tb a b = some r) (ha : TgV C a t) (hu : TgV C b u) : PySem.W.kitOne C.K t u = some r := by
  unfold isOne at h
  split at h
  · cases ha; cases hu
    exact kit_ty h
  · exact hb _ _ _ h _ _ ha hu
theorem isAny_ok (hb : TabOk C tb) {a : Tg} {t : Value} (ha : TgV C a t) : ∀ {ts : List Tg} {us : List Value} {r : Bool}, Paired (TgV C) ts us → isAny tb a ts = some r → PySem.W.kitAny C.K t us = some r
  | _, _, _, .nil, h => by cases h; exact kitAny_nil
  | _, _, r, .cons p q, h => by
    unfold isAny at h
    split at h
    · rename_i h1
      cases h
      exact kitAny_cons (isOne_ok hb h1 ha p) (fun z => by cases z) (fun _ => rfl)
    · rename_i h1
      exact kitAny_cons (isOne_ok hb h1 ha p) (fun _ => isAny_ok hb ha q h) (fun z => by cases z)
    · cases h
theorem tag_ty {ρ : Nat → Addr} {H : Hp} {ah : AH} {x : AV} {v : V} {tg : Tg} (R : Rep C ρ ah H) (r : RV C ρ ah.length H x v) (hi : InsTy C cs) (h : tagOf x ah = some tg) (hc : tagIn cs tg = true) : ∃ t, TgV C tg t ∧ TyX C.K H v t := by
  cases x with
  | non => cases h; cases r.non_inv; exact ⟨_, .bi _, .base .non⟩
  | bl b => cases h; cases r.bl_inv; exact ⟨_, .bi _, .base (.bl _)⟩
  | int b => cases h; cases r.int_inv; exact ⟨_, .bi _, .base (.int _)⟩
  | str b => cases h; cases r.str_inv; exact ⟨_, .bi _, .base (.str _)⟩
  | tup xs =>
    cases h
    obtain ⟨p, vs, rfl, h1, _⟩ := r.tup_inv
    rcases h1 with (h1 | ⟨o, h1⟩) | ⟨o, _, _, h1, h2, _⟩
    · exact ⟨_, .bi _, .base (.tup h1)⟩
    · exact ⟨_, .bi _, .fTuple h1⟩
    · exact ⟨_, .bi _, .kTuple h1 h2⟩
  | obj i =>
    obtain ⟨hl, rfl⟩ := r.obj_inv
    unfold tagOf at h
    dsimp only at h
    split at h
    · rename_i e
      cases h
      obtain ⟨vs, h1, _⟩ := R.obj _ _ e
      exact ⟨_, .bi _, .base (.lst h1)⟩
    · rename_i e
      cases h
      obtain ⟨o, vs, h1, _⟩ := R.obj _ _ e
      exact ⟨_, .bi _, .base (.frz h1)⟩
    · rename_i e
      cases h
      obtain ⟨vs, h1, _⟩ := R.obj _ _ e
      exact ⟨_, .bi _, .base (.dK h1)⟩
    · rename_i c fs e
      cases h
      obtain ⟨Ca, dx, ws, h1, h2, _⟩ := R.obj _ _ e
      have hm : c ∈ cs := by simpa [tagIn] using hc
      obtain ⟨k1, k2, k3, k4, k5⟩ := hi c hm Ca h1
      exact ⟨_, .own h1, .base (.ins h2 k1 k2 k3 k4 k5)⟩
    · cases h
  | glo x => cases h
  | ty t => cases h
  | fl xs => cases h
theorem cls_tg {ρ : Nat → Addr} {n : Nat} {H : Hp} {x : AV} {v : V} {tg : Tg} (r : RV C ρ n H x v) (h : clsTg x = some tg) : ∃ u, TgV C tg u ∧ ClsV v u := by
  cases x with
  | ty t => cases h; cases r; exact ⟨_, .bi _, .ty _⟩
  | glo c =>
    cases h
    cases r with
    | glo hm => exact ⟨_, .own hm, .own _⟩
  | _ => cases h
theorem cls_tgs {ρ : Nat → Addr} {n : Nat} {H : Hp} : ∀ {xs : List AV} {vs : List V} {ts : List Tg}, RVs C ρ n H xs vs → clsTgs xs = some ts → ∃ us, Paired (TgV C) ts us ∧ Paired ClsV vs us
  | _, _, _, .nil, h => by cases h; exact ⟨[], .nil, .nil⟩
  | x :: xs, _, ts, .cons r q, h => by
    unfold clsTgs at h
    split at h
    · rename_i t ts' h1 h2
      cases h
      obtain ⟨u, a1, a2⟩ := cls_tg r h1
      obtain ⟨us, b1, b2⟩ := cls_tgs q h2
      exact ⟨u :: us, .cons a1 b1, .cons a2 b2⟩
    · cases h
/-- isinstance(x, c), c a class or a tuple of classes that stands anywhere -/
def rIsiS (K : PySem.W.Frag) : List V → Hp → VK → Prop := fun xs H Q => rIsi K xs H Q ∨ ∃ (x : V) (tp : Addr) (cs : List V) (t : Value) (us : List Value) (b : Bool), xs = [x, .ref tp] ∧ SqT K H tp cs ∧ Paired ClsV cs us ∧ TyX K H x t ∧ PySem.W.kitAny K t us = some b ∧ Q (.bl b) H
theorem call_isiS {X : Cx} : CallR X (.builtin "isinstance") (rIsiS X.K) := by
  intro pins s σ H xs us Q I r h
  rcases h with h | ⟨x, tp, cs, t, ws, b, rfl, hT, k, ty, e, q⟩
  · exact call_isi pins s σ H xs us Q I r h
  obtain ⟨u1, u2, rfl, r1, r2⟩ := vals2 r
  cases (show u2 = Value.ref tp from r2)
  obtain ⟨P, Z, p, hx⟩ := kit_of I r1 ty
  obtain ⟨its, rv, ⟨o, ho, hc, n, hd⟩, hsz⟩ := I.tuple hT
  have e3 := ClsV.all k rv
  obtain ⟨oc, od, dt, sl⟩ := o
  simp only at hc hd
  subst hc hd
  subst e3
  exact PySem.W.kia_tup Z I.kIn p ho e hx fun tk => ⟨.bl b, H, I.tok tk, rfl, q⟩
theorem cs_isi (hb : TabOk C tb) (hi : InsTy C cs) : CaS C E (rIsiS C.K) (isiM tb cs) := by
  intro ρ ah H xs vs Q R rs q
  unfold isiM at q
  split at q
  · rename_i x c
    cases rs with
    | cons r1 rs =>
      cases rs with
      | cons r2 rs =>
        cases rs
        split at q
        · rename_i tg htg
          split at q
          · rename_i hin
            obtain ⟨t, a1, a2⟩ := tag_ty R r1 hi htg hin
            split at q
            · rename_i ys
              split at q
              · rename_i ts hts
                split at q
                · rename_i b hb'
                  obtain ⟨p, ws, rfl, h1, h2⟩ := r2.tup_inv
                  obtain ⟨us, b1, b2⟩ := cls_tgs h2 hts
                  exact .inr ⟨_, p, ws, t, us, b, rfl, h1, b2, a2, isAny_ok hb a1 b1 hb', Aft.here R q (.bl _)⟩
                · exact (show False from q).elim
              · exact (show False from q).elim
            · split at q
              · rename_i tc htc
                split at q
                · rename_i b hb'
                  obtain ⟨u, b1, b2⟩ := cls_tg r2 htc
                  exact .inl ⟨_, _, t, u, b, rfl, b2, a2, isOne_ok hb hb' a1 b1, Aft.here R q (.bl _)⟩
                · exact (show False from q).elim
              · exact (show False from q).elim
          · exact (show False from q).elim
        · exact (show False from q).elim
  · exact (show False from q).elim
end
end Sm

set_option Elab.async false
set_option linter.all false
set_option maxRecDepth 100000
set_option maxHeartbeats 4000000
namespace Sm
open PySem PySem.Spec PyProof.Rows L2

/-! ### dicts whose keys are ints or texts -/
def keyA : AV → Option Key
  | .int i => some (.inl i)
  | .str s => some (.inr s)
  | _ => none
def valA (kvs : List (Key × AV)) (k : Key) : Option AV := (kvs.find? fun kv => decide (kv.1 = k)).map (·.2)
def putKA (kvs : List (Key × AV)) (k : Key) (v : AV) : List (Key × AV) :=
  if (kvs.any fun kv => decide (kv.1 = k)) = true then kvs.map (fun kv => if kv.1 = k then (kv.1, v) else kv) else kvs ++ [(k, v)]
section
variable {C : KC} {ρ : Nat → Addr} {n : Nat} {H : Hp} {y : AV} {v : V} {k : Key}
theorem keyA_kV {x : AV} {v : V} (r : RV C ρ n H x v) (h : keyA x = some k) : v = kV k := by
  cases x with
  | int i => cases h; exact r.int_inv
  | str s => cases h; exact r.str_inv
  | _ => cases h
theorem kvs_cons {κ : Type} {a b : κ} {x : AV} {u : V} {r : List (κ × AV)} {s : List (κ × V)} (h : KVs C ρ n H ((a, x) :: r) ((b, u) :: s)) : a = b ∧ RV C ρ n H x u ∧ KVs C ρ n H r s := by
  obtain ⟨h1, h2⟩ := h
  simp only [List.map_cons, List.cons.injEq] at h1 h2
  cases h2 with
  | cons r1 r2 => exact ⟨h1.1, r1, h1.2, r2⟩
theorem kvs_mk {κ : Type} {a : κ} {x : AV} {u : V} {r : List (κ × AV)} {s : List (κ × V)} (h1 : RV C ρ n H x u) (h : KVs C ρ n H r s) : KVs C ρ n H ((a, x) :: r) ((a, u) :: s) := ⟨by rw [List.map_cons, List.map_cons, h.1], .cons h1 h.2⟩
theorem kvs_nilL {κ : Type} {s : List (κ × V)} (h : KVs C ρ n H ([] : List (κ × AV)) s) : s = [] := by
  cases s with
  | nil => rfl
  | cons => cases h.1
theorem kvs_nilR {κ : Type} {a : κ × AV} {r : List (κ × AV)} (h : KVs C ρ n H (a :: r) ([] : List (κ × V))) : False := by
  cases h.1
theorem kvs_val : ∀ {fs : List (Key × AV)} {ws : List (Key × V)}, KVs C ρ n H fs ws → match valA fs k with
    | some y => ∃ v, valV ws k = some v ∧ RV C ρ n H y v
    | none => valV ws k = none
  | [], ws, h => by cases kvs_nilL h; exact rfl
  | _ :: _, [], h => (kvs_nilR h).elim
  | (a, x) :: r, (b, u) :: s, h => by
    obtain ⟨rfl, r1, r2⟩ := kvs_cons h
    by_cases q : a = k
    · have e1 : valA ((a, x) :: r) k = some x := by simp [valA, List.find?_cons, q]
      rw [e1]
      exact ⟨u, valV_pos q, r1⟩
    · have e1 : valA ((a, x) :: r) k = valA r k := by simp [valA, List.find?_cons, q]
      rw [e1, valV_neg (p := (a, u)) q]
      exact kvs_val r2
theorem kvs_any : ∀ {fs : List (Key × AV)} {ws : List (Key × V)}, KVs C ρ n H fs ws → (fs.any fun kv => decide (kv.1 = k)) = ws.any fun kv => decide (kv.1 = k)
  | [], ws, h => by cases kvs_nilL h; exact rfl
  | _ :: _, [], h => (kvs_nilR h).elim
  | (a, x) :: r, (b, u) :: s, h => by
    obtain ⟨rfl, r1, r2⟩ := kvs_cons h
    rw [List.any_cons, List.any_cons, kvs_any r2]
theorem kvs_map (ry : RV C ρ n H y v) : ∀ {fs : List (Key × AV)} {ws : List (Key × V)}, KVs C ρ n H fs ws → KVs C ρ n H (fs.map fun kv => if kv.1 = k then (kv.1, y) else kv) (ws.map fun kv => if kv.1 = k then (kv.1, v) else kv)
  | [], ws, h => by cases kvs_nilL h; exact ⟨rfl, .nil⟩
  | _ :: _, [], h => (kvs_nilR h).elim
  | (a, x) :: r, (b, u) :: s, h => by
    obtain ⟨rfl, r1, r2⟩ := kvs_cons h
    rw [List.map_cons, List.map_cons]
    by_cases q : a = k
    · rw [if_pos q, if_pos q]
      exact kvs_mk ry (kvs_map ry r2)
    · rw [if_neg q, if_neg q]
      exact kvs_mk r1 (kvs_map ry r2)
theorem kvs_app {κ : Type} : ∀ {fs gs : List (κ × AV)} {ws us : List (κ × V)}, KVs C ρ n H fs ws → KVs C ρ n H gs us → KVs C ρ n H (fs ++ gs) (ws ++ us) := fun h g => ⟨by rw [List.map_append, List.map_append, h.1, g.1], by rw [List.map_append, List.map_append]; exact h.2.append g.2⟩
theorem kvs_putK (ry : RV C ρ n H y v) {fs : List (Key × AV)} {ws : List (Key × V)} (h : KVs C ρ n H fs ws) : KVs C ρ n H (putKA fs k y) (putK ws k v) := by
  unfold putKA putK
  rw [kvs_any h]
  split
  · exact kvs_map ry h
  · exact kvs_app h ⟨rfl, .cons ry .nil⟩
def mergeKA (kvs more : List (Key × AV)) : List (Key × AV) := more.foldl (fun acc kv => putKA acc kv.1 kv.2) kvs
theorem kvs_merge : ∀ {more : List (Key × AV)} {mo : List (Key × V)} {fs : List (Key × AV)} {ws : List (Key × V)}, KVs C ρ n H more mo → KVs C ρ n H fs ws → KVs C ρ n H (mergeKA fs more) (mergeK ws mo)
  | [], ws, _, _, h, g => by cases kvs_nilL h; exact g
  | _ :: _, [], _, _, h, _ => (kvs_nilR h).elim
  | (a, x) :: r, (b, u) :: s, fs, ws, h, g => by
    obtain ⟨rfl, r1, r2⟩ := kvs_cons h
    show KVs C ρ n H (mergeKA (putKA fs a x) r) (mergeK (putK ws a u) s)
    exact kvs_merge r2 (kvs_putK r1 g)
end

/-! d[k] -/
def rIxDk : R2 := fun x y H Q => ∃ a v, x = .ref a ∧ DGet H a y (some v) ∧ Q v H
theorem ix_dk {X : Cx} (hu : X.A.units + 1 < cLine) : IxR X rIxDk := by
  intro value slice pins s σ H x y v u Q I rx ry h hs
  obtain ⟨a, z, rfl, g, q⟩ := h
  cases (show v = Value.ref a from rx)
  have hT := dict_typeIs I g
  unfold subscriptTail
  refine wpAny_bind ?_
  rw [getitemInPython_of_ne hT.not_modules]
  refine wpAny_bind (wpAny_specialOf hT PySem.F.slot_dict_getitem.lookup ?_)
  have fin : wpAny (model X.prog X.w) X.A (subscripted slice false (.ref a) u) (fun r s₃ => wpAny (model X.prog X.w) X.A (letTemporaryGo value (.ref a) r >>= fun _ => pure r) (EP X pins σ Q) X.xe s₃) X.xe s := by
    rw [hs]
    exact wpAny_operating (wpAny_mono (d_getItem hu I g ry fun w' s3 I3 rw' => (show EP X pins σ Q w' s3 from ⟨z, H, I3, rw', q⟩)) (fun r s₃ h₃ => wpAny_bind (wpAny_letTemporaryGo (wpAny_pure h₃))) fun _ _ x => x)
  first
    | exact wpAny_pure (wpAny_bind fin)
    | exact wpAny_bind (wpAny_pure (wpAny_bind fin))
    | exact wpAny_bind fin
def dctAt (ah : AH) (x : AV) : Option (List (Key × AV)) := match x with
  | .obj n => match ah[n]? with
    | some (.dct kvs) => some kvs
    | _ => none
  | _ => none
theorem Rep.dct {C : KC} {ρ : Nat → Addr} {ah : AH} {H : Hp} {x : AV} {v : V} {kvs : List (Key × AV)} (R : Rep C ρ ah H) (r : RV C ρ ah.length H x v) (h : dctAt ah x = some kvs) :
    ∃ i ws, x = .obj i ∧ i < ah.length ∧ ah[i]? = some (.dct kvs) ∧ v = .ref (ρ i) ∧ H (ρ i) = some (.dK ws) ∧ KVs C ρ ah.length H kvs ws := by
  cases x with
  | obj i =>
    obtain ⟨hi, rfl⟩ := r.obj_inv
    unfold dctAt at h
    dsimp only at h
    split at h
    · rename_i kvs' e
      cases h
      obtain ⟨ws, h1, h2⟩ := R.obj _ _ e
      exact ⟨i, ws, rfl, hi, e, rfl, h1, h2⟩
    · cases h
  | _ => cases h
def idxDM : AV → AV → CM AV := fun x y ah => match dctAt ah x with
  | some kvs => match keyA y with
    | some k => match valA kvs k with
      | some z => .ok z ah
      | none => .no
    | none => .no
  | none => idxM x y ah
theorem os_idxD {C : KC} {E : XK} : OpS C E (fun x y H Q => rIx C.K x y H Q ∨ rIxDk x y H Q) idxDM := by
  intro ρ ah H x y vx vy Q R rx ry q
  unfold idxDM at q
  split at q
  · rename_i kvs hd
    split at q
    · rename_i k hk
      obtain ⟨i, ws, rfl, hi, e, rfl, h1, h2⟩ := R.dct rx hd
      cases keyA_kV ry hk
      have z := kvs_val (k := k) h2
      split at q
      · rename_i w hw
        rw [hw] at z
        obtain ⟨v, z1, z2⟩ := z
        refine .inr ⟨_, v, rfl, ?_, Aft.here R q z2⟩
        rw [← z1]
        exact DGet.k h1
      · exact (show False from q).elim
    · exact (show False from q).elim
  · exact .inl (os_idx ρ ah H x y vx vy Q R rx ry q)
section
variable {X : Cx} {E : XK} {pos : Pos} {a b : Expr} {ca cb : CE}
/-- xs[i], t[i], s[i], d[k] -/
theorem e_ix (hu : X.A.units + 1 < cLine) (ha : PE X a (tE (kc X) E ca)) (hb : PE X b (tE (kc X) E cb)) (hs : PlainIx b := by intro _ _; rfl) : PE X (.Subscript a b pos) (tE (kc X) E (cOp idxDM ca cb)) := pe_imp (pe_ix (ix_seq.or (ix_dk hu)) ha hb hs) fun _ _ _ q => op_cut os_idxD q
end

/-! d[k] = v, xs[i] = v -/
def rSetDk : V → V → V → Hp → (Hp → Prop) → Prop := fun o i v H Q => ∃ a H4, o = .ref a ∧ DPut H a i v H4 ∧ Q H4
theorem set_dk {X : Cx} (hu : X.A.units + 1 < cLine) : PSet X (fun o i v H Q => rSetL o i v H Q ∨ rSetDk o i v H Q) := by
  intro pins s σ H o i v ov iv u Q I ro ri rv h
  rcases h with h | ⟨a, H4, rfl, g, q⟩
  · exact set_list pins s σ H o i v ov iv u Q I ro ri rv h
  · cases (show ov = Value.ref a from ro)
    exact d_setItem hu I g ri rv fun s3 I3 => ⟨H4, I3, q⟩
def setDM (o i v : AV) (env : AEnv) : AH → Out := fun ah => match o with
  | .obj n => match ah[n]? with
    | some (.lst xs) => match i with
      | .int k => match ixN xs.length k with
        | some j => .nx env (ah.set n (.lst (xs.set j v)))
        | none => .no
      | _ => .no
    | some (.dct kvs) => match keyA i with
      | some k => if kvs.length < LIM then .nx env (ah.set n (.dct (putKA kvs k v))) else .no
      | none => .no
    | _ => .no
  | _ => .no
def gIx (co ci : CE) : CG := fun v env ah => match co env ah with
  | .no => .no
  | .er x ah1 => .er x ah1
  | .ok o ah1 => match ci env ah1 with
    | .no => .no
    | .er x ah2 => .er x ah2
    | .ok i ah2 => setDM o i v env ah2
theorem set_ok {C : KC} {E : XK} {ρ : Nat → Addr} {ah : AH} {H : Hp} {o i x : AV} {vo vi v : V} {env : AEnv} {σ : L2.St} {S : List Nat} {Q : L2.St → Hp → Prop} (R : Rep C ρ ah H) (RE : REnv C ρ ah.length H env σ) (ro : RV C ρ ah.length H o vo) (ri : RV C ρ ah.length H i vi) (r : RV C ρ ah.length H x v)
    (q : AftS C E ρ ah.length H (setDM o i x env ah) (EndG S σ Q)) : rSetL vo vi v H (fun H' => Q σ H') ∨ rSetDk vo vi v H (fun H' => Q σ H') := by
  unfold setDM at q
  split at q
  · rename_i n
    obtain ⟨hn, rfl⟩ := ro.obj_inv
    split at q
    · rename_i xs e
      obtain ⟨vs, h1, h2⟩ := R.obj _ _ e
      split at q
      · rename_i kk
        cases ri.int_inv
        split at q
        · rename_i j hj
          rw [h2.length] at hj
          refine .inl ⟨_, vs, kk, j, rfl, rfl, h1, hj, ?_⟩
          obtain ⟨R', e'⟩ := R.write (o := .lst (xs.set j x)) (w' := .lst (vs.set j v)) hn h1 (fun z => z) fun e => ⟨_, upd_same, (h2.set j r).mono e⟩
          exact q ρ _ σ e' R' (RE.mono e') .refl
        · exact (show False from q).elim
      · exact (show False from q).elim
    · rename_i kvs e
      obtain ⟨ws, h1, h2⟩ := R.obj _ _ e
      split at q
      · rename_i k hk
        cases keyA_kV ri hk
        split at q
        · rename_i hl
          have hl' : ws.length < sizeLine := by rw [← h2.len]; exact Nat.lt_of_lt_of_le hl lim_line
          refine .inr ⟨_, _, rfl, DPut.k h1 hl', ?_⟩
          obtain ⟨R', e'⟩ := R.write (o := .dct (putKA kvs k x)) (w' := .dK (putK ws k v)) hn h1 (fun z => z) fun e => ⟨_, upd_same, (kvs_putK r h2).mono e⟩
          exact q ρ _ σ e' R' (RE.mono e') .refl
        · exact (show False from q).elim
      · exact (show False from q).elim
    · exact (show False from q).elim
  · exact (show False from q).elim
section
variable {X : Cx} {E : XK} {pos : Pos} {o i : Expr} {co ci : CE} {S : List Nat}
theorem h_ix (hu : X.A.units + 1 < cLine) (ho : PE X o (tE (kc X) E co)) (hi : PE X i (tE (kc X) E ci))
    (ha : ∀ v, assign (.Subscript o i pos) X.env v = (do
      let ov ← holding [v] (eval o X.env)
      let iv ← holding [v, ov] (eval i X.env)
      standAt pos
      holding [v, ov, iv] (setItem ov iv v)
      release [v, ov, iv] []) := by intro _; rfl) : PG X (.Subscript o i pos) (tGs (kc X) E (gIx co ci) S) := pg_imp (pg_sub ho hi (set_dk hu) ha) fun v σ H Q ⟨ρ, ah, env, x, R, RE, r, q⟩ => by
  refine ⟨ρ, ah, env, R, RE, ?_⟩
  unfold gIx at q
  cases ha : co env ah with
  | no => rw [ha] at q; exact q
  | er x ah1 => rw [ha] at q; exact q
  | ok ov ah1 =>
    rw [ha] at q
    intro ρ1 H1 v1 e1 R1 r1
    refine ⟨ρ1, ah1, env, R1, RE.mono e1, ?_⟩
    replace q := AftS.pre e1 q
    dsimp only at q
    cases hb : ci env ah1 with
    | no => rw [hb] at q; exact q
    | er x ah1 => rw [hb] at q; exact q
    | ok iv ah2 =>
      rw [hb] at q
      intro ρ2 H2 v2 e2 R2 r2
      replace q := AftS.pre e2 q
      exact set_ok R2 ((RE.mono e1).mono e2) (r1.mono e2) r2 ((r.mono e1).mono e2) q
end
end Sm

set_option Elab.async false
set_option linter.all false
set_option maxRecDepth 100000
set_option maxHeartbeats 4000000
namespace Sm
open PySem PySem.Spec PyProof.Rows L2

/-! ### in, not in -/
section
variable {C : KC} {ρ : Nat → Addr} {n : Nat} {H : Hp}
theorem flat_rv {x : AV} {v w : V} (r : RV C ρ n H x v) (h : flatA x = some w) : v = w ∧ flatV v = true := by
  cases x with
  | non => cases h; cases r.non_inv; exact ⟨rfl, rfl⟩
  | bl b => cases h; cases r.bl_inv; exact ⟨rfl, rfl⟩
  | int i => cases h; cases r.int_inv; exact ⟨rfl, rfl⟩
  | str s => cases h; cases r.str_inv; exact ⟨rfl, rfl⟩
  | _ => cases h
theorem flat_rvs : ∀ {xs : List AV} {vs ws : List V}, RVs C ρ n H xs vs → flatAll xs = some ws → vs = ws ∧ vs.all flatV = true
  | _, _, _, .nil, h => by cases h; exact ⟨rfl, rfl⟩
  | x :: xs, _, ws, .cons r q, h => by
    unfold flatAll at h
    split at h
    · rename_i w ws' h1 h2
      cases h
      obtain ⟨rfl, a⟩ := flat_rv r h1
      obtain ⟨rfl, b⟩ := flat_rvs q h2
      exact ⟨rfl, by rw [List.all_cons, a, b]; rfl⟩
    · cases h
end
def rInDT (K : PySem.W.Frag) (neg : Bool) : R2 := fun x y H Q => ∃ d ds, Dp K H x d ∧ Dp K H y (.tuple ds) ∧ SeqAt.shaped d = true ∧ SeqAt.shaped (.tuple ds) = true ∧ Q (.bl (if neg then !(ds.any fun z => PyData.eqv z d) else ds.any fun z => PyData.eqv z d)) H
theorem op_inDT {X : Cx} (hu : X.A.units + 65 < cLine) : OpR X (compareOp .In) (rInDT X.K false) := by
  intro pins s σ H x y v u Q I rx ry h
  obtain ⟨d, ds, hd, he, sd, se, q⟩ := h
  obtain ⟨as, r1⟩ := Dp.reads I d x v hd rx
  obtain ⟨bs, r2⟩ := Dp.reads I (.tuple ds) y u he ry
  exact SeqAt.in_tuple_reads r2 r1 (SeqAt.canLay_of_shaped se) (SeqAt.canLay_of_shaped sd) (room_in_shaped sd hu) ⟨.bl _, H, I, rfl, q⟩
theorem op_notInDT {X : Cx} (hu : X.A.units + 65 < cLine) : OpR X (compareOp .NotIn) (rInDT X.K true) := by
  intro pins s σ H x y v u Q I rx ry h
  obtain ⟨d, ds, hd, he, sd, se, q⟩ := h
  obtain ⟨as, r1⟩ := Dp.reads I d x v hd rx
  obtain ⟨bs, r2⟩ := Dp.reads I (.tuple ds) y u he ry
  exact SeqAt.notIn_tuple_reads r2 r1 (SeqAt.canLay_of_shaped se) (SeqAt.canLay_of_shaped sd) (room_in_shaped sd hu) ⟨.bl _, H, I, rfl, q⟩
def rInDk (neg : Bool) : R2 := fun y x H Q => ∃ a o, x = .ref a ∧ DGet H a y o ∧ Q (.bl (if neg then !o.isSome else o.isSome)) H
def rInAll (K : PySem.W.Frag) (neg : Bool) : R2 := fun x y H Q => (((rIn K neg x y H Q ∨ (if neg then rNotInS else rInS) x y H Q) ∨ (∃ i j, x = .str i ∧ y = .str j ∧ Q (.bl (if neg then !(!(Builtin.Str.occurrences j i 0 j.length 1).isEmpty) else !(Builtin.Str.occurrences j i 0 j.length 1).isEmpty)) H)) ∨ ((if neg then rNotInD K else rInD K) x y H Q ∨ rInDT K neg x y H Q)) ∨ rInDk neg x y H Q
theorem op_in_dk {X : Cx} (hu : X.A.units + 65 < cLine) : OpR X (compareOp .In) (rInDk false) := by
  intro pins s σ H y x u v Q I ry rx h
  obtain ⟨a, o, rfl, g, q⟩ := h
  cases (show v = Value.ref a from rx)
  exact d_in (by omega) I g ry fun s3 I3 => ⟨.bl o.isSome, H, I3, rfl, q⟩
theorem op_notIn_dk {X : Cx} (hu : X.A.units + 65 < cLine) : OpR X (compareOp .NotIn) (rInDk true) := by
  intro pins s σ H y x u v Q I ry rx h
  obtain ⟨a, o, rfl, g, q⟩ := h
  cases (show v = Value.ref a from rx)
  exact d_notIn (by omega) I g ry fun s3 I3 => ⟨.bl (!o.isSome), H, I3, rfl, q⟩
theorem op_inAll {X : Cx} (hu : X.A.units + 65 < cLine) : OpR X (compareOp .In) (rInAll X.K false) := (((op_in_seq.or op_inS).or op_in_str).or ((op_inD hu).or (op_inDT hu))).or (op_in_dk hu)
theorem op_notInAll {X : Cx} (hu : X.A.units + 65 < cLine) : OpR X (compareOp .NotIn) (rInAll X.K true) := (((op_notIn_seq.or op_notInS).or op_notIn_str).or ((op_notInD hu).or (op_notInDT hu))).or (op_notIn_dk hu)
def inM (neg : Bool) : AV → AV → CM AV := fun x y ah => match dctAt ah y with
  | some kvs => match keyA x with
    | some k => .ok (.bl (if neg then !(valA kvs k).isSome else (valA kvs k).isSome)) ah
    | none => .no
  | none => match x, y with
    | .str i, .str j => match i.cps.toList with
      | [c] => .ok (.bl (if neg then !decide (c ∈ j.cps.toList) else decide (c ∈ j.cps.toList))) ah
      | _ => .ok (.bl (if neg then !(!(Builtin.Str.occurrences j i 0 j.length 1).isEmpty) else !(Builtin.Str.occurrences j i 0 j.length 1).isEmpty)) ah
    | _, _ => match seqOf y ah with
      | none => .no
      | some ys => match flatA x, flatAll ys with
        | some v, some vs => .ok (.bl (if neg then !inV v vs else inV v vs)) ah
        | _, _ => match dataOf FUEL ah x, dataOf FUEL ah y with
          | some d, some (.list ds) => if SeqAt.shaped d = true ∧ SeqAt.shaped (.list ds) = true then .ok (.bl (if neg then !(ds.any fun z => PyData.eqv z d) else ds.any fun z => PyData.eqv z d)) ah else .no
          | some d, some (.tuple ds) => if SeqAt.shaped d = true ∧ SeqAt.shaped (.tuple ds) = true then .ok (.bl (if neg then !(ds.any fun z => PyData.eqv z d) else ds.any fun z => PyData.eqv z d)) ah else .no
          | _, _ => .no
theorem str_one {i : Str} {c : Nat} (h : i.cps.toList = [c]) : i = ⟨#[c]⟩ := by
  obtain ⟨a⟩ := i
  have : a = #[c] := by
    apply Array.toList_inj.mp
    exact h
  rw [this]
theorem os_in {C : KC} {E : XK} {neg : Bool} : OpS C E (rInAll C.K neg) (inM neg) := by
  intro ρ ah H x y vx vy Q R rx ry q
  unfold inM at q
  split at q
  · rename_i kvs hd
    split at q
    · rename_i k hk
      obtain ⟨i, ws, rfl, hi, e, rfl, h1, h2⟩ := R.dct ry hd
      cases keyA_kV rx hk
      refine .inr ⟨_, _, rfl, DGet.k h1, ?_⟩
      have z := kvs_val (k := k) h2
      have e2 : (valV ws k).isSome = (valA kvs k).isSome := by
        cases hv : valA kvs k with
        | none => rw [hv] at z; rw [z]; rfl
        | some y => rw [hv] at z; obtain ⟨v, z, _⟩ := z; rw [z]; rfl
      rw [e2]
      exact Aft.here R q (.bl _)
    · exact (show False from q).elim
  · split at q
    · rename_i i j _
      cases rx.str_inv; cases ry.str_inv
      split at q
      · rename_i c hc
        cases str_one hc
        refine .inl (.inl (.inl (.inr ?_)))
        cases neg
        · exact ⟨c, j, rfl, rfl, Aft.here R q (.bl _)⟩
        · exact ⟨c, j, rfl, rfl, Aft.here R q (.bl _)⟩
      · exact .inl (.inl (.inr ⟨i, j, rfl, rfl, Aft.here R q (.bl _)⟩))
    · split at q
      · exact (show False from q).elim
      · rename_i ys hys
        obtain ⟨p, vs, rfl, hs, rs⟩ := R.seq ry hys
        split at q
        · rename_i v ws h1 h2
          obtain ⟨rfl, f1⟩ := flat_rv rx h1
          obtain ⟨rfl, f2⟩ := flat_rvs rs h2
          exact .inl (.inl (.inl (.inl ⟨p, _, rfl, hs.symm, f1, f2, Aft.here R q (.bl _)⟩)))
        · split at q
          · rename_i d ds h1 h2
            split at q
            · rename_i hc
              refine .inl (.inr (.inl ?_))
              have a1 := data_dp R _ _ _ _ rx h1
              have a2 := data_dp R _ _ _ _ ry h2
              cases neg
              · exact ⟨d, ds, a1, a2, hc.1, hc.2, Aft.here R q (.bl _)⟩
              · exact ⟨d, ds, a1, a2, hc.1, hc.2, Aft.here R q (.bl _)⟩
            · exact (show False from q).elim
          · rename_i d ds h1 h2
            split at q
            · rename_i hc
              exact .inl (.inr (.inr ⟨d, ds, data_dp R _ _ _ _ rx h1, data_dp R _ _ _ _ ry h2, hc.1, hc.2, Aft.here R q (.bl _)⟩))
            · exact (show False from q).elim
          · exact (show False from q).elim

/-! ### dicts made -/
def cDNew : CE := fun _ ah => .ok (.obj ah.length) (ah ++ [.dct []])
def pairA (ah : AH) : List AV → Option (List (Key × AV))
  | [] => some []
  | x :: r => match x with
    | .tup [k, v] => match keyA k, pairA ah r with
      | some k, some kvs => some ((k, v) :: kvs)
      | _, _ => none
    | _ => none
def dictM : List AV → CM AV := fun xs ah => match xs with
  | [.obj n] => match lstAt ah n with
    | some ys => match pairA ah ys with
      | some kvs => .ok (.obj ah.length) (ah ++ [.dct (mergeKA [] kvs)])
      | none => .no
    | none => .no
  | _ => .no
section
variable {C : KC} {E : XK} {ρ : Nat → Addr} {H : Hp} {ah : AH} {Q : VK}
theorem Aft.dct {kvs : List (Key × AV)} {ws : List (Key × V)} (R : Rep C ρ ah H) (q : Aft C E ρ ah.length H (.ok (.obj ah.length) (ah ++ [.dct kvs])) Q) (r : KVs C ρ ah.length H kvs ws) : ∀ p, H p = none → Q (.ref p) (upd H p (.dK ws)) := fun p hp => by
  have k : ∀ b w, H b = some w → upd H p (.dK ws) b = some w := fun b w hb => by rw [upd_ne (ne_of_none hb hp)]; exact hb
  have e : Ext ρ ah.length H (rput ρ ah.length p) (ah.length + 1) (upd H p (.dK ws)) := .alloc k hp
  have hl : (ah ++ [AO.dct kvs]).length = ah.length + 1 := by simp
  have R' := R.alloc (o := .dct kvs) k hp ⟨ws, upd_same, r.mono e⟩
  refine q (rput ρ ah.length p) _ _ (by rw [hl]; exact e) R' ?_
  have z : RV C (rput ρ ah.length p) (ah ++ [AO.dct kvs]).length (upd H p (.dK ws)) (.obj ah.length) (.ref (rput ρ ah.length p ah.length)) := .obj (by rw [hl]; exact Nat.lt_succ_self _)
  rw [rput_same] at z
  exact z
theorem pairA_rel {n : Nat} : ∀ {xs : List AV} {vs : List V} {kvs : List (Key × AV)}, RVs C ρ n H xs vs → pairA ah xs = some kvs → ∃ (ps : List Addr) (ws : List (Key × V)), vs = ps.map V.ref ∧ Paired (fun p kv => SqT C.K H p [kV kv.1, kv.2]) ps ws ∧ KVs C ρ n H kvs ws
  | _, _, _, .nil, h => by cases h; exact ⟨[], [], rfl, .nil, rfl, .nil⟩
  | x :: xs, _, kvs, .cons r q, h => by
    unfold pairA at h
    split at h
    · rename_i k v
      split at h
      · rename_i k' kvs' h1 h2
        cases h
        obtain ⟨ps, ws, rfl, b, c⟩ := pairA_rel q h2
        obtain ⟨p, us, rfl, hs, rs⟩ := r.tup_inv
        cases rs with
        | cons r1 rs =>
          cases rs with
          | cons r2 rs =>
            cases rs
            cases keyA_kV r1 h1
            exact ⟨p :: ps, (k', _) :: ws, rfl, .cons hs b, kvs_mk r2 c⟩
      · cases h
    · cases h
theorem cs_dict : CaS C E (fun xs H Q => ∃ (a : Addr) (ps : List Addr) (kvs : List (Key × V)), xs = [.ref a] ∧ SqL C.K H a (ps.map V.ref) ∧ Paired (fun p kv => SqT C.K H p [kV kv.1, kv.2]) ps kvs ∧ ∀ p, H p = none → Q (.ref p) (upd H p (.dK (mergeK [] kvs)))) dictM := by
  intro ρ ah H xs vs Q R rs q
  unfold dictM at q
  split at q
  · rename_i n
    cases rs with
    | cons r1 rs =>
      cases rs
      split at q
      · rename_i ys hl
        split at q
        · rename_i kvs hk
          obtain ⟨hn, rfl⟩ := r1.obj_inv
          obtain ⟨_, us, h1, h2⟩ := R.lst hl
          obtain ⟨ps, ws, rfl, b, c⟩ := pairA_rel h2 hk
          exact ⟨_, ps, ws, rfl, h1, b, Aft.dct R q (kvs_merge c ⟨rfl, .nil⟩)⟩
        · exact (show False from q).elim
      · exact (show False from q).elim
  · exact (show False from q).elim
end
section
variable {X : Cx} {E : XK} {pos : Pos}
theorem e_dnew : PE X (.Dict [] [] pos) (tE (kc X) E cDNew) := pe_imp pe_dnewK fun σ H Q ⟨ρ, ah, env, R, RE, q⟩ => Aft.dct R q ⟨rfl, .nil⟩
end

/-! ### d.get -/
def cDGet2 (co ck cz : CE) : CE := fun env => bind (co env) fun x ah => match dctAt ah x with
  | some _ => bind (ck env) (fun y => bind (cz env) fun z ah2 => match dctAt ah2 x, keyA y with
    | some kvs, some k => .ok ((valA kvs k).getD z) ah2
    | _, _ => .no) ah
  | none => .no
section
variable {X : Cx} {E : XK} {apos cpos : Pos} {o e f : Expr} {co ck cz : CE}
theorem e_dget2 (hu : X.A.units + 1 < cLine) (ho : PE X o (tE (kc X) E co)) (he : PE X e (tE (kc X) E ck)) (hf : PE X f (tE (kc X) E cz)) (m : M2 X o "get" apos e f cpos) : PE X (.Call (.Attribute o "get" apos) [e, f] [] cpos) (tE (kc X) E (cDGet2 co ck cz)) := pe_imp (pe_dget2 hu ho he hf m) fun σ H Q ⟨ρ, ah, env, R, RE, q⟩ => by
  refine ⟨ρ, ah, env, R, RE, ?_⟩
  unfold cDGet2 bind at q
  cases ha : co env ah with
  | no => rw [ha] at q; exact q
  | er x ah1 => rw [ha] at q; exact q
  | ok x ah1 =>
    rw [ha] at q
    intro ρ1 H1 v e1 R1 r
    replace q := Aft.pre e1 q
    dsimp only at q
    split at q
    · rename_i kvs0 hd
      obtain ⟨i, ws, rfl, hi, e0, rfl, h1, h2⟩ := R1.dct r hd
      refine ⟨_, rfl, .inl ⟨ws, .inl h1⟩, ρ1, ah1, env, R1, RE.mono e1, ?_⟩
      cases hb : ck env ah1 with
      | no => rw [hb] at q; exact q
      | er x ah1 => rw [hb] at q; exact q
      | ok y ah2 =>
        rw [hb] at q
        intro ρ2 H2 w e2 R2 ry
        refine ⟨ρ2, ah2, env, R2, (RE.mono e1).mono e2, ?_⟩
        replace q := Aft.pre e2 q
        dsimp only at q
        cases hz : cz env ah2 with
        | no => rw [hz] at q; exact q
        | er x ah1 => rw [hz] at q; exact q
        | ok z ah3 =>
          rw [hz] at q
          intro ρ3 H3 u e3 R3 rz
          replace q := Aft.pre e3 q
          dsimp only at q
          split at q
          · rename_i kvs k hd' hk
            have r' := (r.mono e2).mono e3
            obtain ⟨i', ws', hh, hi', e0', hv, h1', h2'⟩ := R3.dct r' hd'
            cases keyA_kV (ry.mono e3) hk
            have z := kvs_val (k := k) h2'
            refine ⟨valV ws' k, ?_, ?_⟩
            · have : ρ1 i = ρ3 i' := by simpa using hv
              rw [this]
              exact DGet.k h1'
            · cases hva : valA kvs k with
              | none =>
                rw [hva] at z q
                rw [z]
                exact Aft.here R3 q rz
              | some y =>
                rw [hva] at z q
                obtain ⟨v, z1, z2⟩ := z
                rw [z1]
                exact Aft.here R3 q z2
          · exact (show False from q).elim
    · exact (show False from q).elim
end
end Sm

set_option Elab.async false
set_option linter.all false
set_option maxRecDepth 100000
set_option maxHeartbeats 4000000
namespace Sm
open PySem PySem.Spec PyProof.Rows L2

/-! ### zip and enumerate over lists and tuples, in any mix (over KE's Draws) -/
def SqX (K : PySem.W.Frag) : Bool → Hp → Addr → List V → Prop
  | true => SqT K
  | false => SqL K
def ItX : Bool → Heap → Addr → Addr → Nat → Prop
  | true => fun h it l i => h.IsTupleIter it l i
  | false => fun h it l i => h.IsListIter it l i
def SrX : Bool → Heap → Addr → Array Value → Prop
  | true => fun h l items => h.IsTuple l items
  | false => fun h l items => h.IsList l items
theorem drX {prog : Program} {w : PySem.World} {A : Around} (b : Bool) (hh : A.handled = none) {it l : Addr} (ne : l ≠ it) (items : Array Value) : Draws prog w A it [it, l] items.size (fun i v => items[i]? = some v) (fun i h => ItX b h it l i ∧ SrX b h l items) := by
  cases b
  · exact .list hh it l ne items
  · exact .tuple hh it l ne items
theorem ItX.at {b : Bool} {h h' : Heap} {it l : Addr} {i : Nat} (x : ItX b h it l i) (e : ∀ o, h.get? it = some o → h'.get? it = some o) : ItX b h' it l i := by
  cases b
  · exact Heap.IsListIter.at x e
  · exact Heap.IsTupleIter.at x e
theorem ItX.obj {b : Bool} {h : Heap} {it l : Addr} {i : Nat} (x : ItX b h it l i) : ∃ o, h.get? it = some o ∧ ∀ v, o.data ≠ .cell v := by
  cases b
  · obtain ⟨o, ho, _, hd⟩ := x
    exact ⟨o, ho, fun v q => by rw [hd] at q; cases q⟩
  · obtain ⟨o, ho, _, hd⟩ := x
    exact ⟨o, ho, fun v q => by rw [hd] at q; cases q⟩
theorem sqx_at {X : Cx} {pins : List (Addr × Obj)} {σ : L2.St} {H : Hp} {s : Shared} {b : Bool} {a : Addr} {xs : List V} (I : Inv X pins σ H s) (h : SqX X.K b H a xs) : ∃ its : List Value, Vals xs its ∧ SrX b s.heap a its.toArray ∧ a < s.heap.objs.size := by
  cases b
  · obtain ⟨its, r, p, _⟩ := I.list h
    obtain ⟨o, ho, _⟩ := p.isList
    exact ⟨its, r, p.isList, Heap.lt_size ho⟩
  · obtain ⟨its, r, p, _⟩ := I.tuple h
    obtain ⟨o, ho, _⟩ := id p
    exact ⟨its, r, p, Heap.lt_size ho⟩
theorem sqx_inj {X : Cx} {pins : List (Addr × Obj)} {σ : L2.St} {H : Hp} {s : Shared} {b : Bool} {a : Addr} {xs ys : List V} (I : Inv X pins σ H s) (h : SqX X.K b H a xs) (h' : SqX X.K b H a ys) : xs = ys := by
  cases b
  · exact I.list_inj h h'
  · exact I.tuple_inj h h'
/-- the pairs of two sources, as they stand at each turn -/
def ItzX (K : PySem.W.Frag) (p q : Bool) (a b : Addr) : It where
  go := fun i H => ∃ xs ys x y, SqX K p H a xs ∧ SqX K q H b ys ∧ xs[i]? = some x ∧ ys[i]? = some y
  yld := fun i H v H' => ∃ T o x y, v = .ref T ∧ H T = none ∧ H' = upd H T (.frz o (.tup [x, y])) ∧ o.cls = .type "tuple" ∧ o.dict = none ∧ (∀ xs, SqX K p H a xs → xs[i]? = some x) ∧ ∀ ys, SqX K q H b ys → ys[i]? = some y
  stop := fun i H => ∃ xs ys, SqX K p H a xs ∧ SqX K q H b ys ∧ i ≤ xs.length ∧ i ≤ ys.length ∧ (xs.length = i ∨ ys.length = i)
structure ZApart (z TI TO i1 i2 a b : Addr) : Prop where
  S : ZipSep2 z TI TO i1 i2 [i1, a] [i2, b]
  a1 : a ≠ i1
  b2 : b ≠ i2
theorem val_at {xs : List V} {its : List Value} {i : Nat} {v : V} (r : Vals xs its) (h : xs[i]? = some v) : ∃ u, its.toArray[i]? = some u ∧ RelV v u ∧ i < its.toArray.size := by
  obtain ⟨u, hu, ru⟩ := r.get h
  exact ⟨u, by simpa using hu, ru, by simpa using (List.getElem?_eq_some_iff.mp hu).1⟩
theorem turn_zipX {P : Program} {w : PySem.World} {K : PySem.W.Frag} {elts : List Expr} {kk : Nat} {tpos : Pos} {p q : Bool} {a b z TI TO i1 i2 : Addr} (D : ZApart z TI TO i1 i2 a b) :
    Turn P w K (.Tuple elts kk tpos) (ItzX K p q a b) [z, TI, TO, i1, i2] z (fun i h => IsZip h z TI TO .none ∧ IsTupOf2 h TI (.ref i1) (.ref i2) ∧ (∃ x y, IsTupOf2 h TO x y) ∧ ItX p h i1 a i ∧ ItX q h i2 b i) where
  mem := List.mem_cons_self
  obj := by
    rintro i h ⟨hz, hI, ⟨x, y, hO⟩, h1, h2⟩ c hc
    simp only [List.mem_cons, List.not_mem_nil, or_false] at hc
    rcases hc with rfl | rfl | rfl | rfl | rfl
    · exact ⟨_, hz, fun _ z => nomatch z⟩
    · exact ⟨_, hI, fun _ z => nomatch z⟩
    · exact ⟨_, hO, fun _ z => nomatch z⟩
    · exact h1.obj
    · exact h2.obj
  keep := by
    rintro i h h' ⟨hz, hI, ⟨x, y, hO⟩, h1, h2⟩ k
    exact ⟨k _ (by simp) _ hz, k _ (by simp) _ hI, ⟨x, y, k _ (by simp) _ hO⟩, h1.at (k _ (by simp)), h2.at (k _ (by simp))⟩
  item := by
    rintro X rfl rfl rfl hc i pins s σ H E I hf ⟨hz, hI, ⟨x0, y0, hO⟩, h1, h2⟩ ⟨xs, ys, x, y, qx, qy, hx, hy⟩
    obtain ⟨us, r1, s1, _⟩ := sqx_at I qx
    obtain ⟨ws, r2, s2, _⟩ := sqx_at I qy
    obtain ⟨u, hu, ru, lu⟩ := val_at r1 hx
    obtain ⟨v, hv, rv, lv⟩ := val_at r2 hy
    have zl : z < s.heap.objs.size := Heap.lt_size hz
    have hh := I.ok.hd hc
    refine wpAny_pyNext_zipD2_item D.S (drX p (A := X.A.in1) hh D.a1 us.toArray) (drX q (A := X.A.in1) hh D.b2 ws.toArray) hz hI hO ⟨h1, s1⟩ ⟨h2, s2⟩ lu lv fun u' v' h' tk eu ev z' O' st1 st2 T' sz k => ?_
    rw [hu] at eu
    rw [hv] at ev
    cases eu
    cases ev
    refine ⟨_, rfl, wpAny_letOwnedTupleGo_zip (s := { s with heap := h', toks := tk }) z' fun h2' z2 sb => ?_⟩
    have sbk : ∀ c o, c ≠ z → h'.get? c = some o → h2'.get? c = some o := fun c o ne e => (sb.2 c ne).trans e
    have kk' : ∀ c o, c ∉ [z, TI, TO, i1, i2] → s.heap.get? c = some o → h2'.get? c = some o := fun c o nm e => by
      simp only [List.mem_cons, List.not_mem_nil, or_false, not_or] at nm
      exact sbk c o nm.1 (k c o nm.1 nm.2.2.1 nm.2.2.2.1 nm.2.2.2.2 e)
    have T2 := sbk _ _ (Nat.ne_of_gt zl) T'
    have new : ObjOk X.prog X.w (upd H s.heap.objs.size (.frz { cls := .type "tuple", data := .seq #[u, v] } (.tup [x, y]))) h2' s.heap.objs.size (.frz { cls := .type "tuple", data := .seq #[u, v] } (.tup [x, y])) := ⟨T2, by show 2 ≤ sizeLine; rw [sizeLine_eq]; omega, [u, v], .cons ru (.cons rv .nil), ⟨_, T2, rfl, _, rfl⟩⟩
    have lt : ∀ c ∈ [z, TI, TO, i1, i2], c < s.heap.objs.size := by
      intro c hc
      simp only [List.mem_cons, List.not_mem_nil, or_false] at hc
      rcases hc with rfl | rfl | rfl | rfl | rfl
      · exact zl
      · exact Heap.lt_size hI
      · exact Heap.lt_size hO
      · obtain ⟨o, ho, _⟩ := h1.obj; exact Heap.lt_size ho
      · obtain ⟨o, ho, _⟩ := h2.obj; exact Heap.lt_size ho
    refine ⟨.ref s.heap.objs.size, _, I.turnedNew (t' := tk) kk' hf (Nat.le_refl _) new, rfl, ⟨_, _, x, y, rfl, I.hok.fresh (Nat.le_refl _), rfl, rfl, rfl, fun l hl => ?_, fun l hl => ?_⟩, ⟨z2, ?_, ⟨u, v, sbk _ _ D.S.TOz O'⟩, st1.1.at fun o e => sbk _ o (Ne.symm D.S.zi1) e, st2.1.at fun o e => sbk _ o (Ne.symm D.S.zi2) e⟩, fun c hc => ?_⟩
    · rw [sqx_inj I hl qx]; exact hx
    · rw [sqx_inj I hl qy]; exact hy
    · exact sbk _ _ D.S.TIz (k _ _ D.S.TIz D.S.TITO D.S.TIi1 D.S.TIi2 hI)
    · rw [upd_ne (Nat.ne_of_lt (lt c hc))]
      exact (hf c hc).1
  done := by
    rintro X rfl rfl rfl hc i pins s σ H E I hf ⟨hz, hI, ⟨x0, y0, hO⟩, h1, h2⟩ ⟨xs, ys, qx, qy, l1, l2, he⟩
    obtain ⟨us, r1, s1, _⟩ := sqx_at I qx
    obtain ⟨ws, r2, s2, _⟩ := sqx_at I qy
    have hh := I.ok.hd hc
    have e1 : us.toArray.size = xs.length := by rw [r1.length]; simp
    have e2 : ws.toArray.size = ys.length := by rw [r2.length]; simp
    refine wpAny_pyNext_zipD2_end D.S (drX p (A := X.A.in1) hh D.a1 us.toArray) (drX q (A := X.A.in1) hh D.b2 ws.toArray) hz hI hO ⟨h1, s1⟩ ⟨h2, s2⟩ (by omega) (by omega) (by omega) fun h' tk k => ⟨rfl, I.turnedL (t' := tk) (ch := [z, TI, TO, i1, i2]) (fun c o nm e => ?_) hf⟩
    simp only [List.mem_cons, List.not_mem_nil, or_false, not_or] at nm
    exact k c o nm.1 nm.2.2.1 nm.2.2.2.1 nm.2.2.2.2 e
  self := fun A i s Q E st h => wpAny_pyIter_zip st.1 h
/-! sources begin -/
def itObj : Bool → Addr → Obj
  | true, a => { cls := .type "tuple_iterator", data := .fields #[.ref a, .int 0 0] }
  | false, a => { cls := .type "list_iterator", data := .fields #[.ref a, .int 0 0] }
theorem begX (b : Bool) (a : Addr) (items : Array Value) : Begins (.ref a) (itObj b a) fun h => SrX b h a items := by
  cases b
  · exact begins_list a items
  · exact begins_tuple a items
theorem itx_new {b : Bool} {h : Heap} {it a : Addr} (e : h.get? it = some (itObj b a)) : ItX b h it a 0 := by
  cases b
  · exact ⟨_, e, rfl, rfl⟩
  · exact ⟨_, e, rfl, rfl⟩
theorem zapart_new {n a b : Nat} (ha : a < n) (hb : b < n) : ZApart (n + 4) (n + 2) (n + 3) n (n + 1) a b := by
  have d : ∀ x y : Nat, x < y ∨ y < x → (x : Addr) ≠ y := fun x y h e => by
    have e : x = y := e
    omega
  have m : ∀ x y z : Nat, (x < y ∨ y < x) → (x < z ∨ z < x) → (x : Addr) ∉ ([y, z] : List Addr) := fun x y z h1 h2 h => by
    rcases List.mem_cons.mp h with e | h
    · exact d _ _ h1 e
    · exact d _ _ h2 (List.mem_singleton.mp h)
  exact ⟨⟨d _ _ (by omega), d _ _ (by omega), d _ _ (by omega), d _ _ (by omega), List.mem_cons_self, m _ _ _ (by omega) (by omega), m _ _ _ (by omega) (by omega), d _ _ (by omega), List.mem_cons_self, m _ _ _ (by omega) (by omega), m _ _ _ (by omega) (by omega), m _ _ _ (by omega) (by omega), m _ _ _ (by omega) (by omega)⟩, d _ _ (by omega), d _ _ (by omega)⟩
def iZipX (K : PySem.W.Frag) (ta : TA) : TI := fun σ H R => ta σ H fun vs H1 => ∃ (p q : Bool) (a b : Addr) (xs ys : List V), vs = [.ref a, .ref b] ∧ SqX K p H1 a xs ∧ SqX K q H1 b ys ∧ R (ItzX K p q a b) H1
theorem pi_zipX {X : Cx} {e e2 : Expr} {ta : TA} {p pos tpos : Pos} {elts : List Expr} {kk : Nat} (hg : Gl X "zip") (hm : X.mg "zip" = none) (ha : PA X [e, e2] ta)
    (hs : starEach [e, e2] X.env = (false, eval e X.env) :: starEach [e2] X.env := by rfl) (hpl : (backTo pos (starEach [e2] X.env)).any (·.1) = false := by rfl) :
    PI X (.Tuple elts kk tpos) (.Call (.Name "zip" p) [e, e2] [] pos) (iZipX X.K ta) := by
  refine ⟨fun pins s σ H R I h => ?_⟩
  refine Call_ (ld_blt I hg hm PyProof.Rows.boot_zip (PyProof.Rows.callWith_type1 (thn (ha.run pos pins s σ H _ I h) ?_) hs hpl))
  rintro us s1 ⟨vs, H1, I1, r1, pp, qq, a, b, xs, ys, rfl, qx, qy, q⟩
  obtain ⟨u1, u2, rfl, ra, rb⟩ := vals2 r1
  cases (show u1 = Value.ref a from ra)
  cases (show u2 = Value.ref b from rb)
  obtain ⟨its, _, s1x, la⟩ := sqx_at I1 qx
  obtain ⟨its2, _, s2x, lb⟩ := sqx_at I1 qy
  refine zip_begins2 (begX pp a its.toArray) (begX qq b its2.toArray) s1x s2x fun h' hz hT hO h1 h2 hsz hk => wpAny_pyIter_zip hz ?_
  have I2 : Inv X pins σ H1 { s1 with heap := h' } := I1.kept (t' := s1.toks) hk
  have D := zapart_new la lb
  refine ⟨_, _, _, _, H1, rfl, I2, turn_zipX D, ⟨hz, hT, ⟨_, _, hO⟩, itx_new h1, itx_new h2⟩, fun c hc => ?_, q⟩
  have hle : s1.heap.objs.size ≤ c := by
    simp only [List.mem_cons, List.not_mem_nil, or_false] at hc
    rcases hc with rfl | rfl | rfl | rfl | rfl <;> first | exact Nat.le_refl _ | exact Nat.le_add_right _ _
  exact I1.fpOk hle (I1.hok.fresh hle)

/-! ### enumerate -/
def IteX (K : PySem.W.Frag) (p : Bool) (a : Addr) : It where
  go := fun i H => ∃ xs x, SqX K p H a xs ∧ xs[i]? = some x
  yld := fun i H v H' => ∃ T o x, v = .ref T ∧ H T = none ∧ H' = upd H T (.frz o (.tup [.int (i : Nat), x])) ∧ o.cls = .type "tuple" ∧ o.dict = none ∧ ∀ xs, SqX K p H a xs → xs[i]? = some x
  stop := fun i H => ∃ xs, SqX K p H a xs ∧ xs.length = i
theorem turn_enumX {P : Program} {w : PySem.World} {K : PySem.W.Frag} {elts : List Expr} {kk : Nat} {tpos : Pos} {p : Bool} {a e it : Addr} (hei : e ≠ it) (hea : e ≠ a) (hai : a ≠ it) :
    Turn P w K (.Tuple elts kk tpos) (IteX K p a) [e, it] e (fun i h => (∃ old, IsEnum h e it ((i : Nat) : Int) old) ∧ ItX p h it a i) where
  mem := List.mem_cons_self
  obj := by
    rintro i h ⟨⟨old, he⟩, h1⟩ c hc
    simp only [List.mem_cons, List.not_mem_nil, or_false] at hc
    rcases hc with rfl | rfl
    · exact ⟨_, he, fun _ z => nomatch z⟩
    · exact h1.obj
  keep := by
    rintro i h h' ⟨⟨old, he⟩, h1⟩ k
    exact ⟨⟨old, k _ (by simp) _ he⟩, h1.at (k _ (by simp))⟩
  item := by
    rintro X rfl rfl rfl hc i pins s σ H E I hf ⟨⟨old, he⟩, h1⟩ ⟨xs, x, qx, hx⟩
    obtain ⟨us, r1, s1, _⟩ := sqx_at I qx
    obtain ⟨u, hu, ru, lu⟩ := val_at r1 hx
    have el : e < s.heap.objs.size := Heap.lt_size he
    have hh := I.ok.hd hc
    refine wpAny_pyNext_enum_itemD (drX p (A := X.A.in1) hh hai us.toArray) he ⟨h1, s1⟩ lu hei (by simp [hei, hea]) fun u' h' tk eu e' st T' sz k => ?_
    rw [hu] at eu
    cases eu
    refine ⟨_, rfl, wpAny_letOwnedTupleGo_enum (s := { s with heap := h', toks := tk + 1 }) e' fun h2 e2 sb => ?_⟩
    have sbk : ∀ c o, c ≠ e → h'.get? c = some o → h2.get? c = some o := fun c o ne z => (sb.2 c ne).trans z
    have kk' : ∀ c o, c ∉ [e, it] → s.heap.get? c = some o → h2.get? c = some o := fun c o nm z => by
      simp only [List.mem_cons, List.not_mem_nil, or_false, not_or] at nm
      exact sbk c o nm.1 (k c o nm.1 nm.2 z)
    have T2 := sbk _ _ (Nat.ne_of_gt el) T'
    have new : ObjOk X.prog X.w (upd H s.heap.objs.size (.frz { cls := .type "tuple", data := .seq #[.int i tk, u] } (.tup [.int (i : Nat), x]))) h2 s.heap.objs.size (.frz { cls := .type "tuple", data := .seq #[.int i tk, u] } (.tup [.int (i : Nat), x])) := ⟨T2, by show 2 ≤ sizeLine; rw [sizeLine_eq]; omega, [.int (i : Nat) tk, u], .cons ⟨_, rfl⟩ (.cons ru .nil), ⟨_, T2, rfl, _, rfl⟩⟩
    have lt : ∀ c ∈ [e, it], c < s.heap.objs.size := by
      intro c hc
      simp only [List.mem_cons, List.not_mem_nil, or_false] at hc
      rcases hc with rfl | rfl
      · exact el
      · obtain ⟨o, ho, _⟩ := h1.obj; exact Heap.lt_size ho
    refine ⟨.ref s.heap.objs.size, _, I.turnedNew (t' := tk + 1) kk' hf (Nat.le_refl _) new, rfl, ⟨_, _, x, rfl, I.hok.fresh (Nat.le_refl _), rfl, rfl, rfl, fun l hl => ?_⟩, ⟨⟨u, ?_⟩, st.1.at fun o z => sbk _ o (Ne.symm hei) z⟩, fun c hc => ?_⟩
    · rw [sqx_inj I hl qx]; exact hx
    · have q : ((i + 1 : Nat) : Int) = (i : Int) + 1 := by omega
      rw [q]
      exact e2
    · rw [upd_ne (Nat.ne_of_lt (lt c hc))]
      exact (hf c hc).1
  done := by
    rintro X rfl rfl rfl hc i pins s σ H E I hf ⟨⟨old, he⟩, h1⟩ ⟨xs, qx, l1⟩
    obtain ⟨us, r1, s1, _⟩ := sqx_at I qx
    have hh := I.ok.hd hc
    have e1 : us.toArray.size = i := by rw [← l1, r1.length]; simp
    have D := drX (prog := X.prog) (w := X.w) p (A := X.A.in1) hh hai us.toArray
    rw [e1] at D
    refine wpAny_pyNext_enum_endD D he ⟨h1, s1⟩ fun h' k => ⟨rfl, ?_⟩
    obtain ⟨f0, f1, f2, f3, f4, f5⟩ := hf it (by simp)
    exact I.turned (t' := s.toks) (fun b o hb q => k b o hb q) f0 f1 f3 f4 f5
  self := fun A i s Q E st h => wpAny_pyIter_enum st.1.choose_spec h
set_option maxHeartbeats 8000000 in
theorem meets_enum1 {v : Value} {o : Obj} {H : Heap → Prop} (B : Begins v o H) :
    Meets (Builtin.«enumerate.__new__» ⟨[.type "enumerate", v], []⟩) (fun _ R s => H s.heap ∧
      R (.ok (.ret (.ref (s.heap.push o).objs.size))) { s with heap := (s.heap.push o).push { cls := .type "enumerate", data := .fields #[.none, .bool false, .ref s.heap.objs.size, rawInt 0, .none, .none] } }) :=
  .of_wp fun prog w A R s h => by
    obtain ⟨hp, g, d, tk, os⟩ := s
    obtain ⟨hH, h⟩ := h
    have hsub := sub_enumerate
    have begin_ : ∀ {A' : Around} {E : Value → Shared → Prop} {Q : Value → Shared → Prop}, Q (.ref hp.objs.size) ⟨hp.push o, g, d, tk, os⟩ → wpAny (model prog w) A' (pyIter v) Q E ⟨hp, g, d, tk, os⟩ := fun z => B.iter prog w _ _ ⟨hp, g, d, tk, os⟩ _ hH z
    wp_walk using begin_
    refine wpAny_stack_any fun st => wpAny_pure ?_
    split
    · rename_i c _ _ _ _ _
      cases (c == Value.type "enumerate") <;> (wp_walk using begin_; exact ⟨_, rfl, h⟩)
    · wp_walk using begin_
      exact ⟨_, rfl, h⟩
theorem call_enum1 {prog : Program} {w : PySem.World} {A : Around} {E : Value → Shared → Prop} {s : Shared} {v : Value} {o : Obj} {H : Heap → Prop} {Q : Value → Shared → Prop} (B : Begins v o H) (h1 : H s.heap)
    (h : ∀ h', IsEnum h' (s.heap.objs.size + 1) s.heap.objs.size 0 .none → h'.get? s.heap.objs.size = some o → (∀ b u, s.heap.get? b = some u → h'.get? b = some u) → Q (.ref (s.heap.objs.size + 1)) { s with heap := h' }) :
    wpAny (model prog w) A (call (.type "enumerate") [v]) Q E s := by
  refine callType_new PySem.F.called_enumerate (by decide) (PySem.F.typeCall_enumerate_1 _) (PySem.F.newCall_enumerate_1 _) (fun obj => PySem.F.args_object_init_2 obj _) PySem.F.entry_enumerate_new (meets_enum1 B) ⟨h1, ?_⟩
  have z : (s.heap.push o).objs.size = s.heap.objs.size + 1 := Heap.size_push ..
  have he := Heap.get?_push_size (s.heap.push o) (o := { cls := .type "enumerate", data := .fields #[.none, .bool false, .ref s.heap.objs.size, rawInt 0, .none, .none] }) rfl
  show _ ∧ _
  rw [z] at he ⊢
  exact ⟨⟨_, he, rfl⟩, h _ he (Heap.get?_push_of_some _ (Heap.get?_push_size _ B.free)) fun b u x => Heap.get?_push_of_some _ (Heap.get?_push_of_some _ x)⟩
def iEnumX (K : PySem.W.Frag) (ta : TA) : TI := fun σ H R => ta σ H fun vs H1 => ∃ (p : Bool) (a : Addr) (xs : List V), vs = [.ref a] ∧ SqX K p H1 a xs ∧ R (IteX K p a) H1
theorem pi_enumX {X : Cx} {e : Expr} {ta : TA} {p pos tpos : Pos} {elts : List Expr} {kk : Nat} (hg : Gl X "enumerate") (hm : X.mg "enumerate" = none) (ha : PA X [e] ta) (hs : starEach [e] X.env = [(false, eval e X.env)] := by rfl) :
    PI X (.Tuple elts kk tpos) (.Call (.Name "enumerate" p) [e] [] pos) (iEnumX X.K ta) := by
  refine ⟨fun pins s σ H R I h => ?_⟩
  refine Call_ (ld_blt I hg hm boot_enumerate (PyProof.Rows.callWith_type1 (thn (ha.run pos pins s σ H _ I h) ?_) hs rfl))
  rintro us s1 ⟨vs, H1, I1, r1, pp, a, xs, rfl, qx, q⟩
  obtain ⟨u1, rfl, ra⟩ := vals1 r1
  cases (show u1 = Value.ref a from ra)
  obtain ⟨its, _, s1x, la⟩ := sqx_at I1 qx
  refine call_enum1 (begX pp a its.toArray) s1x fun h' he hit hk => wpAny_pyIter_enum he ?_
  have I2 : Inv X pins σ H1 { s1 with heap := h' } := I1.kept (t' := s1.toks) hk
  refine ⟨_, _, _, _, H1, rfl, I2, turn_enumX (it := s1.heap.objs.size) (Nat.succ_ne_self _) (Nat.ne_of_gt (Nat.lt_succ_of_lt la)) (Nat.ne_of_lt la), ⟨⟨.none, he⟩, itx_new hit⟩, fun c hc => ?_, q⟩
  have hle : s1.heap.objs.size ≤ c := by
    simp only [List.mem_cons, List.not_mem_nil, or_false] at hc
    rcases hc with rfl | rfl <;> first | exact Nat.le_refl _ | exact Nat.le_add_right _ _
  exact I1.fpOk hle (I1.hok.fresh hle)

/-! ### lifted -/
def liZip (x y : AV) : CI := fun ah i => match seqOf x ah, seqOf y ah with
  | some xs, some ys => match xs[i]?, ys[i]? with
    | some u, some v => .yld (.tup [u, v])
    | _, _ => if i ≤ xs.length ∧ i ≤ ys.length then .stop else .no
  | _, _ => .no
def liEnum (x : AV) : CI := fun ah i => match seqOf x ah with
  | some xs => match xs[i]? with
    | some u => .yld (.tup [.int i, u])
    | none => if i ≤ xs.length then .stop else .no
  | none => .no
def liStr (s : Str) : CI := fun _ i => match s.cps[i]? with
  | some c => .yld (.str ⟨#[c]⟩)
  | none => .stop
/-- a source, as a value and as an address -/
def SrcR (C : KC) (ρ : Nat → Addr) (n : Nat) (H : Hp) (x : AV) (p : Bool) (a : Addr) : Prop := RV C ρ n H x (.ref a) ∧ match p with
  | true => ∃ xs, x = .tup xs
  | false => ∃ i, x = .obj i
theorem SrcR.at {C : KC} {ρ : Nat → Addr} {ah : AH} {H : Hp} {x : AV} {p : Bool} {a : Addr} {xs : List AV} (s : SrcR C ρ ah.length H x p a) (R : Rep C ρ ah H) (h : seqOf x ah = some xs) : ∃ vs, SqX C.K p H a vs ∧ RVs C ρ ah.length H xs vs := by
  obtain ⟨r, k⟩ := s
  cases p
  · obtain ⟨i, rfl⟩ := k
    obtain ⟨hi, e⟩ := r.obj_inv
    cases e
    obtain ⟨_, vs, h1, h2⟩ := R.lst (show lstAt ah i = some xs from h)
    exact ⟨vs, h1, h2⟩
  · obtain ⟨ys, rfl⟩ := k
    cases h
    obtain ⟨p, vs, e, h1, h2⟩ := r.tup_inv
    cases e
    exact ⟨vs, h1, h2⟩
theorem srcR {C : KC} {ρ : Nat → Addr} {ah : AH} {H : Hp} {x : AV} {v : V} {xs : List AV} (R : Rep C ρ ah H) (r : RV C ρ ah.length H x v) (h : seqOf x ah = some xs) : ∃ p a, v = .ref a ∧ SrcR C ρ ah.length H x p a := by
  cases x with
  | tup ys =>
    obtain ⟨p, vs, rfl, _, _⟩ := r.tup_inv
    exact ⟨true, p, rfl, r, ys, rfl⟩
  | obj i =>
    obtain ⟨hi, rfl⟩ := r.obj_inv
    exact ⟨false, _, rfl, r, i, rfl⟩
  | _ => cases h
theorem SrcR.mono {C : KC} {ρ ρ' : Nat → Addr} {n n' : Nat} {H H' : Hp} {x : AV} {p : Bool} {a : Addr} (s : SrcR C ρ n H x p a) (e : ExtW ρ n H ρ' n' H') : SrcR C ρ' n' H' x p a := ⟨s.1.monoW e, s.2⟩
theorem its_zip {C : KC} {ρ : Nat → Addr} {ah : AH} {H : Hp} {x y : AV} {p q : Bool} {a b : Addr} (sx : SrcR C ρ ah.length H x p a) (sy : SrcR C ρ ah.length H y q b) : ITS C ρ ah.length H (ItzX C.K p q a b) (liZip x y) := by
  intro ρ' ah' H' i e R
  replace sx := sx.mono e
  replace sy := sy.mono e
  unfold liZip
  cases hx : seqOf x ah' with
  | none => exact ⟨fun h => (by cases h), fun _ h => (by cases h)⟩
  | some xs =>
    cases hy : seqOf y ah' with
    | none => exact ⟨fun h => (by cases h), fun _ h => (by cases h)⟩
    | some ys =>
      obtain ⟨vs, qx, rx⟩ := sx.at R hx
      obtain ⟨ws, qy, ry⟩ := sy.at R hy
      dsimp only
      have l1 := rx.length
      have l2 := ry.length
      cases h1 : xs[i]? with
      | none =>
        refine ⟨fun h => ?_, fun _ h => ?_⟩
        · dsimp only at h
          split at h
          · have z := List.getElem?_eq_none_iff.mp h1
            exact ⟨vs, ws, qx, qy, by omega, by omega, .inl (by omega)⟩
          · cases h
        · dsimp only at h
          split at h <;> cases h
      | some u =>
        cases h2 : ys[i]? with
        | none =>
          refine ⟨fun h => ?_, fun _ h => ?_⟩
          · dsimp only at h
            split at h
            · have z := List.getElem?_eq_none_iff.mp h2
              exact ⟨vs, ws, qx, qy, by omega, by omega, .inr (by omega)⟩
            · cases h
          · dsimp only at h
            split at h <;> cases h
        | some v =>
          refine ⟨fun h => (by cases h), fun z h => ?_⟩
          cases h
          obtain ⟨u', hu, ru⟩ := rx.get h1
          obtain ⟨v', hv, rv⟩ := ry.get h2
          refine ⟨⟨vs, ws, u', v', qx, qy, hu, hv⟩, ?_⟩
          rintro _ H2 ⟨T, ob, x1, y1, rfl, hT, rfl, c1, c2, k1, k2⟩
          have e1 := (k1 vs qx).symm.trans hu
          have e2 := (k2 ws qy).symm.trans hv
          cases e1
          cases e2
          obtain ⟨R', e'⟩ := R.grow (H' := upd H' T (.frz ob (.tup [u', v']))) fun b w hb => by rw [upd_ne (ne_of_none hb hT)]; exact hb
          exact ⟨e', R', .tup (.inl ⟨ob, upd_same, c1, c2⟩) (.cons (ru.mono e') (.cons (rv.mono e') .nil))⟩
theorem its_enum {C : KC} {ρ : Nat → Addr} {ah : AH} {H : Hp} {x : AV} {p : Bool} {a : Addr} (sx : SrcR C ρ ah.length H x p a) : ITS C ρ ah.length H (IteX C.K p a) (liEnum x) := by
  intro ρ' ah' H' i e R
  replace sx := sx.mono e
  unfold liEnum
  cases hx : seqOf x ah' with
  | none => exact ⟨fun h => (by cases h), fun _ h => (by cases h)⟩
  | some xs =>
    obtain ⟨vs, qx, rx⟩ := sx.at R hx
    dsimp only
    have l1 := rx.length
    cases h1 : xs[i]? with
    | none =>
      refine ⟨fun h => ?_, fun _ h => ?_⟩
      · dsimp only at h
        split at h
        · have z := List.getElem?_eq_none_iff.mp h1
          exact ⟨vs, qx, by omega⟩
        · cases h
      · dsimp only at h
        split at h <;> cases h
    | some u =>
      refine ⟨fun h => (by cases h), fun z h => ?_⟩
      cases h
      obtain ⟨u', hu, ru⟩ := rx.get h1
      refine ⟨⟨vs, u', qx, hu⟩, ?_⟩
      rintro _ H2 ⟨T, ob, x1, rfl, hT, rfl, c1, c2, k1⟩
      have e1 := (k1 vs qx).symm.trans hu
      cases e1
      obtain ⟨R', e'⟩ := R.grow (H' := upd H' T (.frz ob (.tup [.int (i : Nat), u']))) fun b w hb => by rw [upd_ne (ne_of_none hb hT)]; exact hb
      exact ⟨e', R', .tup (.inl ⟨ob, upd_same, c1, c2⟩) (.cons (.int _) (.cons (ru.mono e') .nil))⟩
theorem its_str {C : KC} {ρ : Nat → Addr} {n : Nat} {H : Hp} {s : Str} : ITS C ρ n H (Its s) (liStr s) := by
  intro ρ' ah' H' i e R
  unfold liStr
  cases h : s.cps[i]? with
  | none => exact ⟨fun _ => Array.getElem?_eq_none_iff.mp h, fun _ h => (by cases h)⟩
  | some c =>
    refine ⟨fun h => (by cases h), fun z hz => ?_⟩
    cases hz
    refine ⟨(Array.getElem?_eq_some_iff.mp h).1, ?_⟩
    rintro v H2 ⟨rfl, c', hc, rfl⟩
    rw [h] at hc
    cases hc
    exact ⟨.refl, R, .str _⟩
def iSeqC (c : CE) : CIE := fun env => bind (c env) fun x ah => match x with
  | .str s => .ok (liStr s) ah
  | _ => .no
def iZipC (cs : CA) : CIE := fun env => bind (cs env) fun xs ah => match xs with
  | [x, y] => match seqOf x ah, seqOf y ah with
    | some _, some _ => .ok (liZip x y) ah
    | _, _ => .no
  | _ => .no
def iEnumC (cs : CA) : CIE := fun env => bind (cs env) fun xs ah => match xs with
  | [x] => match seqOf x ah with
    | some _ => .ok (liEnum x) ah
    | _ => .no
  | _ => .no
def iRng1C (cs : CA) : CIE := fun env => bind (cs env) fun xs ah => match xs with
  | [.int j] => if j.natAbs < 2 ^ 60 then .ok (liR 0 j.toNat) ah else .no
  | _ => .no
def iRng2C (cs : CA) : CIE := fun env => bind (cs env) fun xs ah => match xs with
  | [.int i, .int j] => if i.natAbs < 2 ^ 60 ∧ j.natAbs < 2 ^ 60 then .ok (liR i (j - i).toNat) ah else .no
  | _ => .no
section
variable {X : Cx} {E : XK} {pos p tpos : Pos} {tg e e2 : Expr} {c : CE} {cs : CA} {elts : List Expr} {kk : Nat}
theorem i_str (h : PE X e (tE (kc X) E c)) : PI X tg e (tI (kc X) E (iSeqC c)) := pi_imp (pi_str h) fun σ H R ⟨ρ, ah, env, Rp, RE, q⟩ => by
  refine ⟨ρ, ah, env, Rp, RE, ?_⟩
  unfold iSeqC bind at q
  cases ha : c env ah with
  | no => rw [ha] at q; exact q
  | er x ah1 => rw [ha] at q; exact q
  | ok x ah1 =>
    rw [ha] at q
    intro ρ1 H1 v e1 R1 r
    cases x with
    | str s =>
      cases r.str_inv
      exact ⟨s, rfl, q ρ1 H1 _ e1 R1 its_str⟩
    | _ => exact (show False from q).elim
theorem it_cut {wi : (List V → Hp → Prop) → List V → Hp → Prop} {f : List AV → CM CI} {σ : L2.St} {H : Hp} {R : It → Hp → Prop} {W : List V → Hp → Prop}
    (hf : ∀ ρ ah H xs vs, Rep (kc X) ρ ah H → RVs (kc X) ρ ah.length H xs vs → (match f xs ah with
      | .no => False
      | .er x ah1 => ErrOk (kc X) E ρ ah.length H x ah1
      | .ok ci ah1 => ∀ ρ' H' J, Ext ρ ah.length H ρ' ah1.length H' → Rep (kc X) ρ' ah1 H' → ITS (kc X) ρ' ah1.length H' J ci → R J H') → W vs H)
    (q : tI (kc X) E (fun env => bind (cs env) f) σ H R) : tA (kc X) E cs σ H W := by
  obtain ⟨ρ, ah, env, Rp, RE, q⟩ := q
  refine ⟨ρ, ah, env, Rp, RE, ?_⟩
  unfold bind at q
  dsimp only at q
  cases ha : cs env ah with
  | no => rw [ha] at q; exact q
  | er x ah1 => rw [ha] at q; exact q
  | ok xs ah1 =>
    rw [ha] at q
    intro ρ1 H1 vs e1 R1 r
    refine hf ρ1 ah1 H1 xs vs R1 r ?_
    dsimp only at q
    cases hb : f xs ah1 with
    | no => rw [hb] at q; exact q
    | er x ah2 => rw [hb] at q; exact ErrOk.pre e1 q
    | ok ci ah2 =>
      rw [hb] at q
      exact fun ρ' H' J e2 => q ρ' H' J (e1.trans e2)
theorem i_zip (hg : Gl X "zip") (hm : X.mg "zip" = none) (ha : PA X [e, e2] (tA (kc X) E cs)) (hs : starEach [e, e2] X.env = (false, eval e X.env) :: starEach [e2] X.env := by rfl) (hpl : (backTo pos (starEach [e2] X.env)).any (·.1) = false := by rfl) :
    PI X (.Tuple elts kk tpos) (.Call (.Name "zip" p) [e, e2] [] pos) (tI (kc X) E (iZipC cs)) := pi_imp (pi_zipX hg hm ha hs hpl) fun σ H R q => it_cut (wi := fun _ _ _ => True) (fun ρ ah H xs vs Rp rs q => by
  split at q
  · exact q.elim
  · rename_i h
    split at h
    · split at h <;> cases h
    · cases h
  · rename_i ci ah1 h
    split at h
    · rename_i x y
      split at h
      · rename_i xs ys h1 h2
        cases h
        cases rs with
        | cons r1 rs =>
          cases rs with
          | cons r2 rs =>
            cases rs
            obtain ⟨p1, a, rfl, s1⟩ := srcR Rp r1 h1
            obtain ⟨p2, b, rfl, s2⟩ := srcR Rp r2 h2
            obtain ⟨us, q1, _⟩ := s1.at Rp h1
            obtain ⟨ws, q2, _⟩ := s2.at Rp h2
            exact ⟨p1, p2, a, b, us, ws, rfl, q1, q2, q ρ H _ .refl Rp (its_zip s1 s2)⟩
      · cases h
    · cases h) q
theorem i_enum (hg : Gl X "enumerate") (hm : X.mg "enumerate" = none) (ha : PA X [e] (tA (kc X) E cs)) (hs : starEach [e] X.env = [(false, eval e X.env)] := by rfl) :
    PI X (.Tuple elts kk tpos) (.Call (.Name "enumerate" p) [e] [] pos) (tI (kc X) E (iEnumC cs)) := pi_imp (pi_enumX hg hm ha hs) fun σ H R q => it_cut (wi := fun _ _ _ => True) (fun ρ ah H xs vs Rp rs q => by
  split at q
  · exact q.elim
  · rename_i h
    split at h
    · split at h <;> cases h
    · cases h
  · rename_i ci ah1 h
    split at h
    · rename_i x
      split at h
      · rename_i xs h1
        cases h
        cases rs with
        | cons r1 rs =>
          cases rs
          obtain ⟨p1, a, rfl, s1⟩ := srcR Rp r1 h1
          obtain ⟨us, q1, _⟩ := s1.at Rp h1
          exact ⟨p1, a, us, rfl, q1, q ρ H _ .refl Rp (its_enum s1)⟩
      · cases h
    · cases h) q
theorem i_rng1 (hg : Gl X "range") (hm : X.mg "range" = none) (ha : PA X [e] (tA (kc X) E cs)) (hs : starEach [e] X.env = [(false, eval e X.env)] := by rfl) : PI X tg (.Call (.Name "range" p) [e] [] pos) (tI (kc X) E (iRng1C cs)) := pi_imp (pi_range1 hg hm ha hs) fun σ H R q => it_cut (wi := fun _ _ _ => True) (fun ρ ah H xs vs Rp rs q => by
  split at q
  · exact q.elim
  · rename_i h
    split at h
    · split at h <;> cases h
    · cases h
  · rename_i ci ah1 h
    split at h
    · rename_i j
      split at h
      · rename_i hj
        cases h
        cases rs with
        | cons r1 rs =>
          cases rs
          cases r1.int_inv
          exact ⟨j, rfl, by omega, by omega, q ρ H _ .refl Rp its_rng⟩
      · cases h
    · cases h) q
theorem i_rng2 (hg : Gl X "range") (hm : X.mg "range" = none) (ha : PA X [e, e2] (tA (kc X) E cs)) (hs : starEach [e, e2] X.env = [(false, eval e X.env), (false, eval e2 X.env)] := by rfl) (hs2 : starEach [e2] X.env = [(false, eval e2 X.env)] := by rfl) : PI X tg (.Call (.Name "range" p) [e, e2] [] pos) (tI (kc X) E (iRng2C cs)) := pi_imp (pi_range2 hg hm ha hs hs2) fun σ H R q => it_cut (wi := fun _ _ _ => True) (fun ρ ah H xs vs Rp rs q => by
  split at q
  · exact q.elim
  · rename_i h
    split at h
    · split at h <;> cases h
    · cases h
  · rename_i ci ah1 h
    split at h
    · rename_i i j
      split at h
      · rename_i hj
        cases h
        cases rs with
        | cons r1 rs =>
          cases rs with
          | cons r2 rs =>
            cases rs
            cases r1.int_inv
            cases r2.int_inv
            exact ⟨i, j, rfl, ⟨by omega, by omega, by omega, by omega⟩, q ρ H _ .refl Rp its_rng⟩
      · cases h
    · cases h) q
end
end Sm

set_option Elab.async false
set_option linter.all false
set_option maxRecDepth 100000
set_option maxHeartbeats 4000000
namespace Sm
open PySem PySem.Spec PyProof.Rows L2

/-! ### chains of two comparisons -/
def cChain (f g : AV → AV → CM AV) (a b c : CE) : CE := fun env => bind (a env) fun x => bind (b env) fun y => bind (f x y) fun k => match k with
  | .bl true => bind (c env) fun z => g y z
  | .bl false => ret (.bl false)
  | _ => no
section
variable {X : Cx} {E : XK} {pos : Pos} {a b c : Expr} {ca cb cc : CE} {r r' : R2} {f g : AV → AV → CM AV}
theorem chain_cut (hf : OpS (kc X) E r f) (hg : OpS (kc X) E r' g) {σ : L2.St} {H : Hp} {Q : VK} (q : tE (kc X) E (cChain f g ca cb cc) σ H Q) : tChain r r' (tE (kc X) E ca) (tE (kc X) E cb) (tE (kc X) E cc) σ H Q := by
  obtain ⟨ρ, ah, env, R, RE, q⟩ := q
  refine ⟨ρ, ah, env, R, RE, ?_⟩
  unfold cChain at q
  cases ha : ca env ah with
  | no => simp only [bind, ha] at q; exact q
  | er x ah1 => simp only [bind, ha] at q; exact q
  | ok x ah1 =>
    simp only [bind, ha] at q
    intro ρ1 H1 vx e1 R1 rx
    refine ⟨ρ1, ah1, env, R1, RE.mono e1, ?_⟩
    replace q := Aft.pre e1 q
    cases hb : cb env ah1 with
    | no => simp only [hb] at q; exact q
    | er x ah1 => simp only [hb] at q; exact q
    | ok y ah2 =>
      simp only [hb] at q
      intro ρ2 H2 vy e2 R2 ry
      replace q := Aft.pre e2 q
      refine hf ρ2 ah2 H2 x y vx vy _ R2 (rx.mono e2) ry ?_
      cases hk : f x y ah2 with
      | no => simp only [hk] at q; exact q
      | er x ah1 => simp only [hk] at q; exact q
      | ok k ah3 =>
        simp only [hk] at q
        intro ρ3 H3 vk e3 R3 rk
        replace q := Aft.pre e3 q
        cases k with
        | bl k =>
          refine ⟨k, rk.bl_inv, ?_⟩
          cases k with
          | false => exact Aft.here R3 q (.bl _)
          | true =>
            refine ⟨ρ3, ah3, env, R3, ((RE.mono e1).mono e2).mono e3, ?_⟩
            cases hc : cc env ah3 with
            | no => simp only [bind, hc] at q; exact q
            | er x ah1 => simp only [bind, hc] at q; exact q
            | ok z ah4 =>
              simp only [bind, hc] at q
              intro ρ4 H4 vz e4 R4 rz
              exact hg ρ4 ah4 H4 y z vy vz Q R4 ((ry.mono e3).mono e4) rz (Aft.pre e4 q)
        | _ => exact (show False from q).elim
theorem e_chain {op op' : CmpOp} (ho : OpR X (compareOp op) r) (hf : OpS (kc X) E r f) (ho' : OpR X (compareOp op') r') (hg : OpS (kc X) E r' g) (ha : PE X a (tE (kc X) E ca)) (hb : PE X b (tE (kc X) E cb)) (hc : PE X c (tE (kc X) E cc))
    (hm : lastMarks [op, op'] [b, c] = false := by with_unfolding_all rfl) : PE X (.Compare a [op, op'] [b, c] pos) (tE (kc X) E (cChain f g ca cb cc)) := pe_imp (pe_chain ho ho' ha hb hc hm) fun _ _ _ q => chain_cut hf hg q
theorem t_chain {op op' : CmpOp} (ho : OpR X (compareOp op) r) (hf : OpS (kc X) E r f) (ho' : OpR X (compareOp op') r') (hg : OpS (kc X) E r' g) (ha : PE X a (tE (kc X) E ca)) (hb : PE X b (tE (kc X) E cb)) (hc : PE X c (tE (kc X) E cc))
    (hm : lastMarks [op, op'] [b, c] = false := by with_unfolding_all rfl) : PT X (.Compare a [op, op'] [b, c] pos) (tT (kc X) E (cTest (cChain f g ca cb cc))) := pt_imp (pt_chain ho ho' ha hb hc hm) fun _ _ _ q => chain_cut hf hg (test_cut q)
end

/-! ### a, b = x, y with plain local names -/
def cPar (i j : Nat) (cs : CA) : CS := fun env ah => match cs env ah with
  | .ok [x, y] ah1 => .nx ((env.set i (some x)).set j (some y)) ah1
  | .er x ah1 => .er x ah1
  | _ => .no
def cPar3 (i j l : Nat) (cs : CA) : CS := fun env ah => match cs env ah with
  | .ok [x, y, z] ah1 => .nx (((env.set i (some x)).set j (some y)).set l (some z)) ah1
  | .er x ah1 => .er x ah1
  | _ => .no
section
variable {X : Cx} {E : XK} {pos px py pz pt : Pos} {x y z : Str} {a b c : Expr} {cs : CA} {kt k2 : Nat} {pt2 : Pos}
theorem s_par (i j : Nat) (hc : X.calm = true) (hN : X.N.Nodup) (ha : PA X [a, b] (tA (kc X) E cs)) (hi : X.N[i]? = some x := by rfl) (hj : X.N[j]? = some y := by rfl) (hij : i ≠ j := by decide)
    (hx : X.env.scope.names.lookup x = some .local := by rfl) (hy : X.env.scope.names.lookup y = some .local := by rfl)
    (hw : swappedStores [.Tuple [.Name x px, .Name y py] kt pt] (.Tuple [a, b] k2 pt2) X.env = pure (some [x, y]) := by rfl)
    (hs : swapsWithSole [.Tuple [.Name x px, .Name y py] kt pt] (.Tuple [a, b] k2 pt2) pos.line X.env = pure false := by rfl) :
    PS X (.Assign [.Tuple [.Name x px, .Name y py] kt pt] (.Tuple [a, b] k2 pt2) pos) (tS (kc X) E (cPar i j cs)) := ps_imp (ps_par hc hN hi hj hij hx hy ha hw hs) fun D σ H ⟨ρ, ah, env, R, RE, q⟩ => by
  refine ⟨ρ, ah, env, R, RE, ?_⟩
  unfold cPar at q
  cases ha : cs env ah with
  | no => simp only [ha] at q; exact q
  | er x ah1 => simp only [ha] at q; exact q
  | ok xs ah1 =>
    simp only [ha] at q
    intro ρ1 H1 vs e1 R1 rs
    split at q
    · rename_i x y _ h
      cases h
      cases rs with
      | cons r1 rs =>
        cases rs with
        | cons r2 rs =>
          cases rs
          exact ⟨_, _, rfl, q ρ1 H1 _ e1 R1 (((RE.mono e1).set i r1).set j r2)⟩
    · rename_i h
      cases h
    · exact (show False from q).elim
theorem s_par3 (i j l : Nat) (hc : X.calm = true) (hN : X.N.Nodup) (ha : PA X [a, b, c] (tA (kc X) E cs)) (hi : X.N[i]? = some x := by rfl) (hj : X.N[j]? = some y := by rfl) (hl : X.N[l]? = some z := by rfl) (hij : i ≠ j := by decide) (hil : i ≠ l := by decide) (hjl : j ≠ l := by decide)
    (hx : X.env.scope.names.lookup x = some .local := by rfl) (hy : X.env.scope.names.lookup y = some .local := by rfl) (hz : X.env.scope.names.lookup z = some .local := by rfl)
    (hw : swappedStores [.Tuple [.Name x px, .Name y py, .Name z pz] kt pt] (.Tuple [a, b, c] k2 pt2) X.env = pure (some [x, y, z]) := by rfl)
    (hs : swapsWithSole [.Tuple [.Name x px, .Name y py, .Name z pz] kt pt] (.Tuple [a, b, c] k2 pt2) pos.line X.env = pure false := by rfl) :
    PS X (.Assign [.Tuple [.Name x px, .Name y py, .Name z pz] kt pt] (.Tuple [a, b, c] k2 pt2) pos) (tS (kc X) E (cPar3 i j l cs)) := ps_imp (ps_par3 hc hN hi hj hl hij hil hjl hx hy hz ha hw hs) fun D σ H ⟨ρ, ah, env, R, RE, q⟩ => by
  refine ⟨ρ, ah, env, R, RE, ?_⟩
  unfold cPar3 at q
  cases ha : cs env ah with
  | no => simp only [ha] at q; exact q
  | er x ah1 => simp only [ha] at q; exact q
  | ok xs ah1 =>
    simp only [ha] at q
    intro ρ1 H1 vs e1 R1 rs
    split at q
    · rename_i x y z _ h
      cases h
      cases rs with
      | cons r1 rs =>
        cases rs with
        | cons r2 rs =>
          cases rs with
          | cons r3 rs =>
            cases rs
            exact ⟨_, _, _, rfl, q ρ1 H1 _ e1 R1 ((((RE.mono e1).set i r1).set j r2).set l r3)⟩
    · rename_i h
      cases h
    · exact (show False from q).elim
end

/-! ### f-strings of texts and ints -/
def fmtM (x : AV) : CM AV := fun ah => match x with
  | .str s => if s.length ≤ LIM then .ok (.str s) ah else .no
  | .int i => if i.natAbs.log2 < 1920 then .ok (.str (toString i)) ah else .no
  | _ => .no
def cFmt (c : CE) : CE := fun env => bind (c env) fmtM
def cJs : List CE → Str → AEnv → CM AV
  | [], acc, _ => fun ah => .ok (.str acc) ah
  | c :: cs, acc, env => bind (c env) fun x => match x with
    | .str y => if (acc ++ y).length ≤ LIM then cJs cs (acc ++ y) env else no
    | _ => no
section
variable {X : Cx} {E : XK} {pos : Pos} {e : Expr} {c : CE} {es : List Expr} {cs : List CE}
theorem e_fmt (h : PE X e (tE (kc X) E c)) : PE X (.FormattedValue e (-1) none pos) (tE (kc X) E (cFmt c)) := pe_imp (pe_fmt h) fun σ H Q ⟨ρ, ah, env, R, RE, q⟩ => by
  refine ⟨ρ, ah, env, R, RE, ?_⟩
  unfold cFmt at q
  cases ha : c env ah with
  | no => simp only [bind, ha] at q; exact q
  | er x ah1 => simp only [bind, ha] at q; exact q
  | ok x ah1 =>
    simp only [bind, ha] at q
    intro ρ1 H1 v e1 R1 r
    replace q := Aft.pre e1 q
    cases x with
    | str s =>
      cases r.str_inv
      unfold fmtM at q
      dsimp only at q
      split at q
      · exact .inl ⟨s, rfl, lim_le ‹_›, Aft.here R1 q (.str _)⟩
      · exact (show False from q).elim
    | int i =>
      cases r.int_inv
      unfold fmtM at q
      dsimp only at q
      split at q
      · exact .inr ⟨i, rfl, ‹_›, Aft.here R1 q (.str _)⟩
      · exact (show False from q).elim
    | _ => exact (show False from q).elim
inductive PJs (X : Cx) (E : XK) : List Expr → List CE → Prop where
  | nil : PJs X E [] []
  | cons {e : Expr} {c : CE} {es : List Expr} {cs : List CE} (h : PE X e (tE (kc X) E c)) (r : PJs X E es cs) : PJs X E (e :: es) (c :: cs)
theorem PJs.pj (h : PJs X E es cs) : PJ X es (cs.map fun c => tE (kc X) E c) := by
  induction h with
  | nil => exact .nil
  | cons h _ ih => exact .cons h ih
theorem js_cut : ∀ (cs : List CE) (acc : Str) (ρ : Nat → Addr) (ah : AH) (env : AEnv) (σ : L2.St) (H : Hp) (Q : VK), Rep (kc X) ρ ah H → REnv (kc X) ρ ah.length H env σ → Aft (kc X) E ρ ah.length H (cJs cs acc env ah) Q →
    tJs (cs.map fun c => tE (kc X) E c) acc σ H fun out H1 => Q (.str out) H1
  | [], acc, ρ, ah, env, σ, H, Q, R, RE, q => Aft.here R q (.str _)
  | c :: cs, acc, ρ, ah, env, σ, H, Q, R, RE, q => by
    refine ⟨ρ, ah, env, R, RE, ?_⟩
    unfold cJs at q
    cases ha : c env ah with
    | no => simp only [bind, ha] at q; exact q
    | er x ah1 => simp only [bind, ha] at q; exact q
    | ok x ah1 =>
      simp only [bind, ha] at q
      intro ρ1 H1 v e1 R1 r
      replace q := Aft.pre e1 q
      cases x with
      | str y =>
        cases r.str_inv
        dsimp only at q
        split at q
        · exact ⟨y, rfl, lim_le ‹_›, js_cut cs (acc ++ y) ρ1 ah1 env σ H1 Q R1 (RE.mono e1) q⟩
        · exact (show False from q).elim
      | _ => exact (show False from q).elim
theorem e_js {v1 v2 : Expr} {rest : List Expr} (h : PJs X E (v1 :: v2 :: rest) cs) : PE X (.JoinedStr (v1 :: v2 :: rest) pos) (tE (kc X) E (cJs cs Str.empty)) := pe_imp (pe_joined h.pj) fun σ H Q ⟨ρ, ah, env, R, RE, q⟩ => js_cut cs Str.empty ρ ah env σ H Q R RE q
theorem e_js1 (h : PE X e (tE (kc X) E c)) : PE X (.JoinedStr [e] pos) (tE (kc X) E c) := pe_joined1 h
end

/-! ### name op= e -/
def cAug (i : Nat) (f : AV → AV → CM AV) (c : CE) : CS := fun env ah => match env[i]? with
  | some (some x) => match c env ah with
    | .no => .no
    | .er x ah1 => .er x ah1
    | .ok y ah1 => match f x y ah1 with
      | .no => .no
      | .er x ah2 => .er x ah2
      | .ok z ah2 => .nx (env.set i (some z)) ah2
  | _ => .no
def PpS (C : KC) (E : XK) (t : TIp) (f : AV → AV → CM AV) : Prop := OpS C E t f
theorem pp_add {C : KC} {E : XK} : OpS C E (ipI fun i j => i + j) (fun x y ah => match x, y with
    | .int i, .int j => .ok (.int (i + j)) ah
    | _, _ => .no) := by
  intro ρ ah H x y vx vy Q R rx ry q
  cases x <;> cases y <;> first | exact (show False from q).elim | skip
  cases rx.int_inv; cases ry.int_inv
  exact ⟨_, _, rfl, rfl, Aft.here R q (.int _)⟩
theorem s_aug {X : Cx} {E : XK} {pos pos' : Pos} {x : Str} {e : Expr} {c : CE} {op : Operator} {t : TIp} {f : AV → AV → CM AV} (i : Nat) (hN : X.N.Nodup) (ho : PIp X op t) (hf : OpS (kc X) E t f) (he : PE X e (tE (kc X) E c)) (hi : X.N[i]? = some x := by rfl) (hx : Loc X.env.scope x := by first | exact Or.inl rfl | exact Or.inr rfl)
    (hl : X.fn x = true ∨ X.env.scope.names.lookup x = some .local := by first | exact .inl rfl | exact .inr rfl) : PS X (.AugAssign (.Name x pos') op e pos) (tS (kc X) E (cAug i f c)) := ps_imp (ps_aug hN hi hx he ho hl) fun D σ H ⟨ρ, ah, env, R, RE, q⟩ => by
  unfold cAug at q
  split at q
  · rename_i x hx
    obtain ⟨v, h1, h2⟩ := RE.2 i x hx
    refine ⟨v, h1, ρ, ah, env, R, RE, ?_⟩
    cases ha : c env ah with
    | no => simp only [ha] at q; exact q
    | er x ah1 => simp only [ha] at q; exact q
    | ok y ah1 =>
      simp only [ha] at q
      intro ρ1 H1 w e1 R1 ry
      replace q := AftS.pre e1 q
      refine hf ρ1 ah1 H1 x y v w _ R1 (h2.mono e1) ry ?_
      cases hb : f x y ah1 with
      | no => simp only [hb] at q; exact q
      | er x ah2 => simp only [hb] at q; exact q
      | ok z ah2 =>
        simp only [hb] at q
        exact fun ρ2 H2 u e2 R2 rz => q ρ2 H2 _ e2 R2 (((RE.mono e1).mono e2).set i rz)
  · exact (show False from q).elim
end Sm

set_option Elab.async false
set_option linter.all false
set_option maxRecDepth 100000
set_option maxHeartbeats 4000000
namespace Sm
open PySem PySem.Spec PyProof.Rows L2

/-! ### methods of texts -/
def strsA : List Str → List AV := fun ys => ys.map .str
def splitM : AV → List AV → CM AV := fun x ys ah => match x, ys with
  | .str a, [.str b] => if (b.length == 0) = false ∧ a.length + 2 ≤ LIM then .ok (.obj ah.length) (ah ++ [.lst (strsA (Txt.split a b))]) else .no
  | _, _ => .no
def partM : AV → List AV → CM AV := fun x ys ah => match x, ys with
  | .str a, [.str b] => if (b.length == 0) = false ∧ a.length ≤ LIM then .ok (.tup [.str (Txt.partition a b).1, .str (Txt.partition a b).2.1, .str (Txt.partition a b).2.2]) ah else .no
  | _, _ => .no
def textsOf : List AV → Option (List Str)
  | [] => some []
  | x :: r => match x, textsOf r with
    | .str s, some ss => some (s :: ss)
    | _, _ => none
def joinM : AV → List AV → CM AV := fun x ys ah => match x, ys with
  | .str a, [y] => match seqOf y ah with
    | some xs => match textsOf xs with
      | some ss => if (ss.map (·.length)).sum + ss.length * a.length ≤ 16777216 then .ok (.str (Txt.join a ss)) ah else .no
      | none => .no
    | none => .no
  | _, _ => .no
def strBM (g : Str → Str → Bool) : AV → List AV → CM AV := fun x ys ah => match x, ys with
  | .str a, [.str b] => .ok (.bl (g a b)) ah
  | _, _ => .no
section
variable {C : KC} {E : XK} {ρ : Nat → Addr} {n : Nat} {H : Hp}
theorem rvs_strs : ∀ ss : List Str, RVs C ρ n H (strsA ss) (ss.map V.str)
  | [] => .nil
  | s :: r => .cons (.str s) (rvs_strs r)
theorem texts_rel : ∀ {xs : List AV} {vs : List V} {ss : List Str}, RVs C ρ n H xs vs → textsOf xs = some ss → vs = ss.map V.str
  | _, _, _, .nil, h => by cases h; rfl
  | x :: xs, _, ss, .cons r q, h => by
    unfold textsOf at h
    split at h
    · rename_i s ss' h2
      cases h
      cases r.str_inv
      rw [texts_rel q h2]
      rfl
    · cases h
theorem ms_split : MtS C E (fun x xs H Q => ∃ a b, x = .str a ∧ xs = [.str b] ∧ (b.length == 0) = false ∧ a.length + 2 ≤ sizeLine ∧ rNewStrs (Txt.split a b) H Q) splitM := by
  intro ρ ah H x ys v vs Q R rx rs q
  unfold splitM at q
  split at q
  · rename_i a b
    obtain ⟨w, rfl, rw'⟩ := rs.one_inv
    cases rx.str_inv
    cases rw'.str_inv
    split at q
    · exact ⟨a, b, rfl, rfl, (‹_ ∧ _›).1, lim_le (‹_ ∧ _›).2, Aft.lst R q (rvs_strs _)⟩
    · exact (show False from q).elim
  · exact (show False from q).elim
theorem ms_part : MtS C E rPartN partM := by
  intro ρ ah H x ys v vs Q R rx rs q
  unfold partM at q
  split at q
  · rename_i a b
    obtain ⟨w, rfl, rw'⟩ := rs.one_inv
    cases rx.str_inv
    cases rw'.str_inv
    split at q
    · exact ⟨a, b, rfl, rfl, (‹_ ∧ _›).1, lim_le (‹_ ∧ _›).2, Aft.tup R q (.cons (.str _) (.cons (.str _) (.cons (.str _) .nil)))⟩
    · exact (show False from q).elim
  · exact (show False from q).elim
theorem ms_join : MtS C E (fun x xs H Q => ∃ a p, ∃ ys : List Str, x = .str a ∧ xs = [.ref p] ∧ (SqL C.K H p (ys.map V.str) ∨ SqT C.K H p (ys.map V.str)) ∧
    (ys.map (·.length)).sum + ys.length * a.length ≤ 16777216 ∧ Q (.str (Txt.join a ys)) H) joinM := by
  intro ρ ah H x ys v vs Q R rx rs q
  unfold joinM at q
  split at q
  · rename_i a y
    obtain ⟨w, rfl, rw'⟩ := rs.one_inv
    cases rx.str_inv
    split at q
    · rename_i xs hx
      split at q
      · rename_i ss hs
        split at q
        · obtain ⟨p, us, rfl, hq, ru⟩ := R.seq rw' hx
          cases texts_rel ru hs
          exact ⟨a, p, ss, rfl, rfl, hq.symm, ‹_›, Aft.here R q (.str _)⟩
        · exact (show False from q).elim
      · exact (show False from q).elim
    · exact (show False from q).elim
  · exact (show False from q).elim
theorem ms_strB {g : Str → Str → Bool} : MtS C E (fun x xs H Q => ∃ a b, x = .str a ∧ xs = [.str b] ∧ Q (.bl (g a b)) H) (strBM g) := by
  intro ρ ah H x ys v vs Q R rx rs q
  unfold strBM at q
  split at q
  · rename_i a b
    obtain ⟨w, rfl, rw'⟩ := rs.one_inv
    cases rx.str_inv
    cases rw'.str_inv
    exact ⟨a, b, rfl, rfl, Aft.here R q (.bl _)⟩
  · exact (show False from q).elim
end
end Sm

set_option Elab.async false
set_option linter.all false
set_option maxRecDepth 100000
set_option maxHeartbeats 4000000
namespace Sm
open PySem PySem.Spec PyProof.Rows L2
def cNeg (c : CE) : CE := fun env => bind (c env) fun x ah => match x with
  | .int i => .ok (.int (-i)) ah
  | _ => .no
section
variable {X : Cx} {E : XK} {pos : Pos} {e : Expr} {c : CE}
theorem e_neg (h : PE X e (tE (kc X) E c)) : PE X (.UnaryOp .USub e pos) (tE (kc X) E (cNeg c)) := pe_imp (pe_un un_neg h) fun σ H Q ⟨ρ, ah, env, R, RE, q⟩ => by
  refine ⟨ρ, ah, env, R, RE, ?_⟩
  unfold cNeg bind at q
  cases ha : c env ah with
  | no => rw [ha] at q; exact q
  | er x ah1 => rw [ha] at q; exact q
  | ok x ah1 =>
    rw [ha] at q
    intro ρ1 H1 v e1 R1 r
    cases x with
    | int i => exact ⟨i, r.int_inv, q ρ1 H1 _ e1 R1 (.int _)⟩
    | _ => exact (show False from q).elim
end
/-! ### what is walked, whatever it is -/
theorem pi_or {X : Cx} {tg e : Expr} {t u : TI} (h1 : PI X tg e t) (h2 : PI X tg e u) : PI X tg e (fun σ H R => t σ H R ∨ u σ H R) := ⟨fun pins s σ H R I q => q.elim (h1.run pins s σ H R I) (h2.run pins s σ H R I)⟩
def iAny (c : CE) : CIE := fun env => bind (c env) fun x ah => match x with
  | .str s => .ok (liStr s) ah
  | .tup xs => .ok (liT xs) ah
  | .obj n => match lstAt ah n with
    | none => .no
    | some _ => .ok (liL n) ah
  | _ => .no
theorem i_any {X : Cx} {E : XK} {tg e : Expr} {c : CE} (h : PE X e (tE (kc X) E c)) : PI X tg e (tI (kc X) E (iAny c)) := pi_imp (pi_or (i_lst h) (pi_or (i_tup h) (i_str h))) fun σ H R ⟨ρ, ah, env, Rp, RE, q⟩ => by
  unfold iAny bind at q
  cases ha : c env ah with
  | no => rw [ha] at q; exact (show False from q).elim
  | er x ah1 =>
    rw [ha] at q
    refine .inl ⟨ρ, ah, env, Rp, RE, ?_⟩
    unfold iLst bind
    rw [ha]
    exact q
  | ok x ah1 =>
    rw [ha] at q
    cases x with
    | str s =>
      refine .inr (.inr ⟨ρ, ah, env, Rp, RE, ?_⟩)
      unfold iSeqC bind
      rw [ha]
      exact q
    | tup s =>
      refine .inr (.inl ⟨ρ, ah, env, Rp, RE, ?_⟩)
      unfold iTupC bind
      rw [ha]
      exact q
    | obj s =>
      refine .inl ⟨ρ, ah, env, Rp, RE, ?_⟩
      unfold iLst bind
      rw [ha]
      exact q
    | _ => exact (show False from q).elim
theorem pe_or {X : Cx} {e : Expr} {t u : TE} (h1 : PE X e t) (h2 : PE X e u) : PE X e (fun σ H Q => t σ H Q ∨ u σ H Q) := ⟨fun pins s σ H Q I q => q.elim (h1.run pins s σ H Q I) (h2.run pins s σ H Q I)⟩
/-- a list's slice or a tuple's -/
def cSl (c : CE) (l h : CO) : CE := fun env ah => match c env ah with
  | .ok (.tup xs) ah1 => cSlT c l h env ah
  | _ => cSlL c l h env ah
theorem e_sl {X : Cx} {E : XK} {pos p2 : Pos} {e : Expr} {lo hi : Option Expr} {c : CE} {l h : CO} (he : PE X e (tE (kc X) E c)) (hl : PO X lo (tO (kc X) E l)) (hu : PO X hi (tO (kc X) E h)) : PE X (.Subscript e (.Slice lo hi none p2) pos) (tE (kc X) E (cSl c l h)) := pe_imp (pe_or (e_slT he hl hu) (e_slL he hl hu)) fun σ H Q ⟨ρ, ah, env, R, RE, q⟩ => by
  unfold cSl at q
  split at q
  · exact .inl ⟨ρ, ah, env, R, RE, q⟩
  · exact .inr ⟨ρ, ah, env, R, RE, q⟩
/-- the reading of xs[::k] where k is -1 -/
def tTurn (K : PySem.W.Frag) (te : TE) : TE := fun σ H Q => te σ H fun x H1 => ∃ a xs, x = .ref a ∧ SqL K H1 a xs ∧ ∀ p, H1 p = none → Q (.ref p) (upd H1 p (.lst xs.reverse))
theorem pe_turn {X : Cx} {e : Expr} {te : TE} {z1 z2 : Nat} {q1 q2 q3 q4 pos : Pos} (he : PE X e te) : PE X (.Subscript e (.Slice none none (some (.BinOp (.Constant (.int 0) z1 q1) .Sub (.Constant (.int 1) z2 q2) q3)) q4) pos) (tTurn X.K te) := ⟨fun pins s σ H Q I h => by
  have part : PO X (some (.BinOp (.Constant (.int 0) z1 q1) .Sub (.Constant (.int 1) z2 q2) q3)) (tPart (tOp (rI0 fun i j => .int (i - j)) (tC (.int 0)) (tC (.int 1)))) := po_some (pe_op op_sub pe_int pe_int)
  refine Subscript_ (thn (he.run pins s σ H _ I h) ?_)
  rintro v s1 ⟨x, H1, I1, r1, a, xs, rfl, hx, q⟩
  cases (show v = Value.ref a from r1)
  refine wpAny_Slice (thn (po_none.run pins s1 σ H1 (fun o H2 => o = none ∧ H2 = H1) I1 ⟨rfl, rfl⟩) ?_)
  rintro vl s2 ⟨_, _, I2, pl, rfl, rfl⟩
  refine thn (po_none.run pins s2 σ _ (fun o H3 => o = none ∧ H3 = _) I2 ⟨rfl, rfl⟩) ?_
  rintro vu s3 ⟨_, _, I3, pu, rfl, rfl⟩
  refine thn (part.run pins s3 σ _ (fun o H4 => o = some (-1) ∧ H4 = _) I3 ⟨0, 1, rfl, rfl, -1, rfl, rfl, rfl⟩) ?_
  rintro vt s4 ⟨_, _, I4, pt, rfl, rfl⟩
  have I5 := I4.kept (h' := s4.heap.push { cls := .type "slice", data := .fields #[vl, vu, vt] }) (t' := s4.toks) fun b ob z => Heap.get?_push_of_some _ z
  obtain ⟨its, r, pl5, hz⟩ := I5.list hx
  have hl : its.length = xs.length := r.length.symm
  refine tail_any (ops := [.ref a, .ref s4.heap.objs.size]) pl5.isList.typeIs PySem.slot_list_getitem.lookup ?_ (by with_unfolding_all rfl)
  refine wpAny_getItem_list_slice pl5.isList (.new _ vl vu vt) pl pu pt (by decide) ?_ (by simpa [hl] using hz)
  rw [PySem.W.krv_pick]
  exact ⟨.ref _, _, I5.laid (o := .lst xs.reverse) (t' := s4.toks) (fun b ob z => Heap.get?_push_of_some _ z) (Nat.le_refl _) ⟨by simpa using hz, _, 0, r.reverse, Heap.get?_push_size _ rfl⟩, rfl, q _ (I5.hok.fresh (Nat.le_refl _))⟩⟩
/-- xs[::0 - 1] -/
def cRevL (c : CE) : CE := fun env => bind (c env) fun x ah => match x with
  | .obj n => match lstAt ah n with
    | some xs => .ok (.obj ah.length) (ah ++ [.lst xs.reverse])
    | none => .no
  | _ => .no
theorem e_turn {X : Cx} {E : XK} {e : Expr} {c : CE} {z1 z2 : Nat} {q1 q2 q3 q4 pos : Pos} (he : PE X e (tE (kc X) E c)) : PE X (.Subscript e (.Slice none none (some (.BinOp (.Constant (.int 0) z1 q1) .Sub (.Constant (.int 1) z2 q2) q3)) q4) pos) (tE (kc X) E (cRevL c)) := pe_imp (pe_turn he) fun σ H Q ⟨ρ, ah, env, R, RE, q⟩ => by
  refine ⟨ρ, ah, env, R, RE, ?_⟩
  unfold cRevL bind at q
  cases ha : c env ah with
  | no => rw [ha] at q; exact q
  | er x ah1 => rw [ha] at q; exact q
  | ok x ah1 =>
    rw [ha] at q
    intro ρ1 H1 v e1 R1 r
    replace q := Aft.pre e1 q
    cases x with
    | obj n =>
      obtain ⟨hn, rfl⟩ := r.obj_inv
      dsimp only at q
      split at q
      · rename_i xs hl
        obtain ⟨_, vs, h1, h2⟩ := R1.lst hl
        exact ⟨_, vs, rfl, h1, Aft.lst R1 q h2.reverse⟩
      · exact (show False from q).elim
    | _ => exact (show False from q).elim
theorem e_gstr {X : Cx} {E : XK} {x z : Str} {pos : Pos} (hm : ∃ t, X.mg x = some (.str z t)) (hg : Gl X x := by rfl) (hd : (x == ("__debug__" : Str)) = false := by decide) : PE X (.Name x pos) (tE (kc X) E (cC (.str z))) := by
  obtain ⟨t, hm⟩ := hm
  exact e_c (pe_glob hg hm (v := .str z) ⟨t, rfl⟩ hd) fun _ _ _ => .str z
end Sm

set_option Elab.async false
set_option linter.all false
set_option maxRecDepth 100000
set_option maxHeartbeats 4000000
namespace Sm
open PySem PySem.Spec PyProof.Rows L2
section
variable {X : Cx} {E : XK} {pos : Pos} {a b : Expr} {ca cb : CE} {k : Nat}
theorem x_add (ha : PE X a (tE (kc X) E ca)) (hb : PE X b (tE (kc X) E cb)) : PE X (.BinOp a .Add b pos) (tE (kc X) E (cOp addM ca cb)) := e_op op_addAll os_add ha hb
theorem x_sub (ha : PE X a (tE (kc X) E ca)) (hb : PE X b (tE (kc X) E cb)) : PE X (.BinOp a .Sub b pos) (tE (kc X) E (cOp subM ca cb)) := e_op op_sub os_sub ha hb
theorem x_mul (ha : PE X a (tE (kc X) E ca)) (hb : PE X b (tE (kc X) E cb)) : PE X (.BinOp a .Mult b pos) (tE (kc X) E (cOp mulM ca cb)) := e_op op_mulW os_mul ha hb
theorem x_mod (ha : PE X a (tE (kc X) E ca)) (hb : PE X b (tE (kc X) E cb)) : PE X (.BinOp a .Mod b pos) (tE (kc X) E (cOp modM ca cb)) := e_op op_mod os_mod ha hb
theorem x_fdiv (ha : PE X a (tE (kc X) E ca)) (hb : PE X b (tE (kc X) E cb)) : PE X (.BinOp a .FloorDiv b pos) (tE (kc X) E (cOp fdivM ca cb)) := e_op op_fdivW os_fdiv ha hb
theorem x_pow (ha : PE X a (tE (kc X) E ca)) (hb : PE X b (tE (kc X) E cb)) : PE X (.BinOp a .Pow b pos) (tE (kc X) E (cOp powM ca cb)) := e_op op_pow os_pow ha hb
/-- a comparison by values, with what it does -/
structure CmpB (X : Cx) (E : XK) (op : CmpOp) (f : AV → AV → CM AV) : Prop where
  ex : ∃ r, OpR X (compareOp op) r ∧ OpS (kc X) E r f
theorem b_eq (hr : Room k X.A) : CmpB X E .Eq (eqM false) := ⟨_, op_eqD (by have := hr.un; omega), os_eq⟩
theorem b_ne (hr : Room k X.A) : CmpB X E .NotEq (eqM true) := ⟨_, op_neD (by have := hr.un; omega), os_ne⟩
theorem b_lt : CmpB X E .Lt (cmpM fun i j => decide (i < j)) := ⟨_, op_lt, os_cmp⟩
theorem b_le : CmpB X E .LtE (cmpM fun i j => decide (i ≤ j)) := ⟨_, op_le, os_cmp⟩
theorem b_gt : CmpB X E .Gt (cmpM fun i j => decide (j < i)) := ⟨_, op_gt, os_cmp⟩
theorem b_ge : CmpB X E .GtE (cmpM fun i j => decide (j ≤ i)) := ⟨_, op_ge, os_cmp⟩
theorem b_is : CmpB X E .Is (isNM false) := ⟨_, op_isN, os_isN⟩
theorem b_isnot : CmpB X E .IsNot (isNM true) := ⟨_, op_notN, os_notN⟩
theorem b_in (hr : Room k X.A) : CmpB X E .In (inM false) := ⟨_, op_inAll (by have := hr.un; omega), os_in⟩
theorem b_notin (hr : Room k X.A) : CmpB X E .NotIn (inM true) := ⟨_, op_notInAll (by have := hr.un; omega), os_in⟩
variable {op op' : CmpOp} {f g : AV → AV → CM AV} {c : Expr} {cc : CE}
theorem x_cmp (B : CmpB X E op f) (ha : PE X a (tE (kc X) E ca)) (hb : PE X b (tE (kc X) E cb)) (hm : behindInMarks op b = false := by with_unfolding_all rfl) : PE X (.Compare a [op] [b] pos) (tE (kc X) E (cOp f ca cb)) := by
  obtain ⟨r, h1, h2⟩ := B.ex
  exact e_cmp h1 h2 ha hb hm
theorem y_cmp (B : CmpB X E op f) (ha : PE X a (tE (kc X) E ca)) (hb : PE X b (tE (kc X) E cb)) (hm : behindInMarks op b = false := by with_unfolding_all rfl) : PT X (.Compare a [op] [b] pos) (tT (kc X) E (cTest (cOp f ca cb))) := by
  obtain ⟨r, h1, h2⟩ := B.ex
  exact t_cmp h1 h2 ha hb hm
theorem x_chain (B : CmpB X E op f) (B' : CmpB X E op' g) (ha : PE X a (tE (kc X) E ca)) (hb : PE X b (tE (kc X) E cb)) (hc : PE X c (tE (kc X) E cc)) (hm : lastMarks [op, op'] [b, c] = false := by with_unfolding_all rfl) : PE X (.Compare a [op, op'] [b, c] pos) (tE (kc X) E (cChain f g ca cb cc)) := by
  obtain ⟨r, h1, h2⟩ := B.ex
  obtain ⟨r', h3, h4⟩ := B'.ex
  exact e_chain h1 h2 h3 h4 ha hb hc hm
theorem y_chain (B : CmpB X E op f) (B' : CmpB X E op' g) (ha : PE X a (tE (kc X) E ca)) (hb : PE X b (tE (kc X) E cb)) (hc : PE X c (tE (kc X) E cc)) (hm : lastMarks [op, op'] [b, c] = false := by with_unfolding_all rfl) : PT X (.Compare a [op, op'] [b, c] pos) (tT (kc X) E (cTest (cChain f g ca cb cc))) := by
  obtain ⟨r, h1, h2⟩ := B.ex
  obtain ⟨r', h3, h4⟩ := B'.ex
  exact t_chain h1 h2 h3 h4 ha hb hc hm
theorem x_ix (hr : Room k X.A) (ha : PE X a (tE (kc X) E ca)) (hb : PE X b (tE (kc X) E cb)) (hs : PlainIx b := by intro _ _; rfl) : PE X (.Subscript a b pos) (tE (kc X) E (cOp idxDM ca cb)) := e_ix (by have := hr.un; omega) ha hb hs
theorem z_ix {S : List Nat} (hr : Room k X.A) (ho : PE X a (tE (kc X) E ca)) (hi : PE X b (tE (kc X) E cb)) (ha : ∀ v, assign (.Subscript a b pos) X.env v = (do
      let ov ← holding [v] (eval a X.env)
      let iv ← holding [v, ov] (eval b X.env)
      standAt pos
      holding [v, ov, iv] (setItem ov iv v)
      release [v, ov, iv] []) := by intro _; rfl) : PG X (.Subscript a b pos) (tGs (kc X) E (gIx ca cb) S) := h_ix (by have := hr.un; omega) ho hi ha
end
theorem setDM_out {o i x : AV} {env : AEnv} {ah : AH} : (∃ e ah', setDM o i x env ah = .nx e ah') ∨ setDM o i x env ah = .no := by
  unfold setDM
  repeat' split
  all_goals first | exact .inr rfl | exact .inl ⟨_, _, rfl⟩
theorem gok_ix {co ci : CE} : GOk (gIx co ci) := fun x env ah => by
  unfold gIx
  cases co env ah with
  | no => trivial
  | er x ah1 => trivial
  | ok o ah1 =>
    dsimp only
    cases ci env ah1 with
    | no => trivial
    | er x ah2 => trivial
    | ok i ah2 =>
      dsimp only
      rcases setDM_out (o := o) (i := i) (x := x) (env := env) (ah := ah2) with ⟨e, ah', h⟩ | h
      · rw [h]; trivial
      · rw [h]; trivial
/-- what a def keeps: its level, its place, its parameters, its mirror -/
structure Has (P : Program) (w : World) (K : PySem.W.Frag) (mg : Str → Option Value) (base : Heap) (k : Nat) (at_ : Str × Option Str) (ps : List Str) (m : List AV → CM AV) : Prop where
  ex : ∃ fd, FnOk P w K mg base (L2.CX P w) k (He.fAd K at_) fd ps (spM ⟨K, mg⟩ ps.length m) ∧ Binds K fd ps [] ∧ PySem.W.keepIn K (.ref (He.fAd K at_)) = true
section
variable {X : Cx} {E : XK} {x : Str} {p pos : Pos} {e : Expr} {es : List Expr} {cs : CA} {j k : Nat} {ps : List Str} {m : List AV → CM AV}
theorem x_call (F : Has X.prog X.w X.K X.mg X.base j (x, none) ps m) (hr : Room k X.A) (hjk : j ≤ k) (hm : X.mg x = some (.ref (He.ga X.K x))) (hx : Passes (L2.CX X.prog X.w) X E) (ha : PA X (e :: es) (tA (kc X) E cs)) (hg : Gl X x := by rfl)
    (hdb : (x == ("__debug__" : Str)) = false := by decide) (he : starEach (e :: es) X.env = (false, eval e X.env) :: starEach es X.env := by rfl) (hpl : (backTo pos (starEach es X.env)).any (·.1) = false := by rfl) :
    PE X (.Call (.Name x p) (e :: es) [] pos) (tE (kc X) E (cCall ps.length m [] cs)) := by
  obtain ⟨fd, F, b, k⟩ := F.ex
  exact e_call F (hr.mono hjk) hg hm k b .nil rds_nil hx ha hdb he hpl
end
section
variable {X : Cx} {E : XK} {x mn c f : Str} {p apos pos : Pos} {o e : Expr} {es : List Expr} {co ce : CE} {cs : CA} {j k : Nat} {ps : List Str} {m : List AV → CM AV} {tb : ITab} {cl : List Str}
theorem x_isi (hb : TabOk (kc X) tb) (hi : InsTy (kc X) cl) (hm : X.mg "isinstance" = none) (ha : PA X (e :: es) (tA (kc X) E cs)) (hg : Gl X "isinstance" := by rfl)
    (he : starEach (e :: es) X.env = (false, eval e X.env) :: starEach es X.env := by rfl) (hpl : (backTo pos (starEach es X.env)).any (·.1) = false := by rfl) :
    PE X (.Call (.Name "isinstance" p) (e :: es) [] pos) (tE (kc X) E (cB (isiM tb cl) cs)) := e_callB call_isiS (cs_isi hb hi) hg hm PyProof.Rows.boot_isinstance ha (by decide) (by decide) he hpl
/-- o.m(e, ..), m a method of the class c -/
theorem x_meth {pl : Sem Bool} (F : Has X.prog X.w X.K X.mg X.base j (c, some mn) ps m) (hr : Room k X.A) (hjk : j ≤ k) (hc : Cls X.K (He.ga X.K c)) (hmt : Meth X.K (He.ga X.K c) mn (He.ma X.K (He.ga X.K c) mn)) (hm : X.mg c = some (.ref (He.ga X.K c))) (hx : Passes (L2.CX X.prog X.w) X E)
    (ho : PE X o (tE (kc X) E co)) (ha : PA X (e :: es) (tA (kc X) E cs))
    (hst : starEach (e :: es) X.env = (false, eval e X.env) :: starEach es X.env := by rfl) (hpl : (backTo pos (starEach es X.env)).any (·.1) = false := by rfl)
    (ht : eval (.Call (.Attribute o mn apos) (e :: es) [] pos) X.env = (do
      let ov ← eval o X.env
      standAt apos.atName
      let (f, first) ← holding [ov] (getMethod ov mn pl)
      callWith pos f first (backTo pos (starEach (e :: es) X.env)) (backToKw pos (keywordEach [] X.env))) := by rfl) :
    PE X (.Call (.Attribute o mn apos) (e :: es) [] pos) (tE (kc X) E (cMeth c mn ps.length m [] co cs)) := by
  obtain ⟨fd, F, b, _⟩ := F.ex
  exact e_meth ho hc hmt hm F (hr.mono hjk) b .nil rds_nil hx ha hst hpl ht
theorem x_meth0 {pl : Sem Bool} (F : Has X.prog X.w X.K X.mg X.base j (c, some mn) ps m) (hr : Room k X.A) (hjk : j ≤ k) (hc : Cls X.K (He.ga X.K c)) (hmt : Meth X.K (He.ga X.K c) mn (He.ma X.K (He.ga X.K c) mn)) (hm : X.mg c = some (.ref (He.ga X.K c))) (hx : Passes (L2.CX X.prog X.w) X E)
    (ho : PE X o (tE (kc X) E co)) (ht : eval (.Call (.Attribute o mn apos) [] [] pos) X.env = (do
      let ov ← eval o X.env
      standAt apos.atName
      let (f, first) ← holding [ov] (getMethod ov mn pl)
      callWith pos f first (backTo pos (starEach [] X.env)) (backToKw pos (keywordEach [] X.env))) := by rfl) :
    PE X (.Call (.Attribute o mn apos) [] [] pos) (tE (kc X) E (cMeth c mn ps.length m [] co caNil)) := by
  obtain ⟨fd, F, b, _⟩ := F.ex
  exact e_meth0 ho hc hmt hm F (hr.mono hjk) b .nil rds_nil hx ht
/-- C(e, ..), all parameters given -/
theorem x_make (F : Has X.prog X.w X.K X.mg X.base j (x, some "__init__") ps m) (hr : Room k X.A) (hjk : j + 1 ≤ k) (M : Mk X.K (He.ga X.K x) (He.ma X.K (He.ga X.K x) "__init__")) (hm : X.mg x = some (.ref (He.ga X.K x))) (hx : Passes (L2.CX X.prog X.w) X E)
    (ha : PA X (e :: es) (tA (kc X) E cs)) (hg : Gl X x := by rfl) (hdb : (x == ("__debug__" : Str)) = false := by decide) (he : starEach (e :: es) X.env = (false, eval e X.env) :: starEach es X.env := by rfl) (hpl : (backTo pos (starEach es X.env)).any (·.1) = false := by rfl) :
    PE X (.Call (.Name x p) (e :: es) [] pos) (tE (kc X) E (cMake x ps.length m [] cs)) := by
  obtain ⟨fd, F, b, _⟩ := F.ex
  exact e_make M F (hr.mono hjk) hg hm b .nil rds_nil hx ha hdb he hpl
/-- a tuple of the module's top -/
theorem e_gtup {xs : List AV} {a : Addr} (hm : X.mg x = some (.ref a)) (h : ∃ vs, (∀ H, SqN X.K H a vs) ∧ RDs (kc X) xs vs) (hg : Gl X x := by rfl) (hd : (x == ("__debug__" : Str)) = false := by decide) : PE X (.Name x pos) (tE (kc X) E (cC (.tup xs))) := by
  obtain ⟨vs, h1, h2⟩ := h
  exact pe_imp (pe_glob hg hm (v := .ref a) rfl hd) fun σ H Q ⟨ρ, ah, env, R, RE, q⟩ => Aft.here R q (.tup (h1 H) (h2 _ _ _))
end
end Sm

set_option Elab.async false
set_option linter.all false
set_option maxRecDepth 100000
set_option maxHeartbeats 4000000
namespace Sm
open PySem PySem.Spec PyProof.Rows L2
section
variable {X : Cx} {pins : List (Addr × Obj)} {σ : L2.St} {H : Hp} {s : Shared}
theorem pairs2 (I : Inv X pins σ H s) : ∀ {ps : List Addr} {kvs : List (Key × V)}, Paired (fun p kv => SqT X.K H p [kV kv.1, kv.2]) ps kvs →
    ∃ (prs : List (Key × Value)) (pv : List (Value × Value)), KV kvs prs ∧ prs.length = ps.length ∧ pv.length = ps.length ∧ ∀ (j : Nat) (k v : Value), pv[j]? = some (k, v) → ∃ (b : Addr) (key : Key), ps[j]? = some b ∧ IsTup s.heap b #[k, v] ∧ prs[j]? = some (key, v) ∧ keyIs key k = true
  | _, _, .nil => ⟨[], [], .nil, rfl, rfl, fun j k v e => by simp at e⟩
  | _, _, .cons (a := p) (b := kv) h t => by
    obtain ⟨prs, pv, r, l1, l2, hp⟩ := pairs2 I t
    obtain ⟨its, rv, ht, _⟩ := I.tuple h
    obtain ⟨u, y, rfl, ru, ry⟩ := vals2 rv
    refine ⟨(kv.1, y) :: prs, (u, y) :: pv, .cons ⟨rfl, ry⟩ r, by simp [l1], by simp [l2], fun j k v e => ?_⟩
    cases j with
    | zero =>
      cases (show (u, y) = (k, v) from Option.some.inj e)
      exact ⟨p, kv.1, rfl, ht, rfl, kV_is (P := X.prog) (w := X.w) ru⟩
    | succ j =>
      obtain ⟨b, key, e1, e2, e3, e4⟩ := hp j k v (by simpa using e)
      exact ⟨b, key, by simpa using e1, e2, by simpa using e3, e4⟩
/-- the object of a tuple that has no dict of its own -/
theorem sqn_obj {a : Addr} {ps : List Addr} (I : Inv X pins σ H s) (h : SqN X.K H a (ps.map V.ref)) : ∃ (o : Obj) (n : Nat), s.heap.get? a = some o ∧ o.cls = .type "tuple" ∧ o.dict = none ∧ o.data = .seq (ps.map Value.ref).toArray n := by
  rcases h with ⟨o, h, hc, hd⟩ | ⟨o, its, n, h1, h2, h3, h4, _, h5⟩
  · obtain ⟨g, _, us, rv, o', g', _, n, d'⟩ := I.hok a _ h
    rw [g] at g'
    cases g'
    have e := refs_at rv
    subst e
    exact ⟨o, n, g, hc, hd, d'⟩
  · have e := refs_at h5
    refine ⟨o, n, I.kIn a o h1, h2, h3, ?_⟩
    rw [h4, ← e]
end
/-- dict(t), t a tuple of pairs -/
theorem cr_dictT {X : Cx} (hc : X.calm = true) : CallR X (.type "dict") (fun xs H Q => ∃ (a : Addr) (ps : List Addr) (kvs : List (Key × V)), xs = [.ref a] ∧ SqN X.K H a (ps.map V.ref) ∧ Paired (fun p kv => SqT X.K H p [kV kv.1, kv.2]) ps kvs ∧
    ∀ p, H p = none → Q (.ref p) (upd H p (.dK (mergeK [] kvs)))) := by
  rintro pins s σ H xs us Q I r ⟨a, ps, kvs, rfl, hq, hp, q⟩
  obtain ⟨u, rfl, rx⟩ := vals1 r
  cases (show u = Value.ref a from rx)
  obtain ⟨o, n, g, h1, h2, h3⟩ := sqn_obj I hq
  obtain ⟨_, _, _, hz⟩ := I.tuple hq.t
  rw [List.length_map] at hz
  obtain ⟨prs, pv, rel, l1, l2, hpv⟩ := pairs2 I hp
  have lk : kvs.length = ps.length := by rw [rel.length, l1]
  have items : PairItems s.heap (ps.map Value.ref).toArray (fun j => ps.getD j 0) pv := by
    refine ⟨by simp [l2], fun j k v e => ?_⟩
    obtain ⟨b, key, e1, e2, _, _⟩ := hpv j k v e
    have e3 : ps.getD j 0 = b := by rw [List.getD_eq_getElem?_getD, e1]; rfl
    dsimp only
    rw [e3]
    exact ⟨by simp [e1], .inl e2⟩
  have have_ : PairsHave (mixKind X.prog X.w) pv.length (PairRel pv) prs := ⟨by rw [l1, l2], fun i key v e => by
    obtain ⟨b, k, _, _, e3, e4⟩ := hpv i key v e
    exact ⟨k, e3, e4⟩⟩
  refine PySem.call_dict_pairs (knd := mixKind X.prog X.w) (PairArg.tuple a (ps.map Value.ref).toArray (fun j => ps.getD j 0) pv) (I.ok.hd hc) ⟨⟨o, n, g, h1, h2, h3⟩, items⟩ have_ (by rw [l2]; exact hz) fun h' tk hd' k => ?_
  have hm : (s.heap.objs.size == sysModules) = false := beq_eq_false_iff_ne.mpr (Nat.ne_of_gt I.big)
  have hlen : (mergeK [] kvs).length ≤ sizeLine := Nat.le_trans (length_mergeK kvs []) (by rw [List.length_nil, Nat.zero_add, lk]; exact hz)
  exact ⟨.ref s.heap.objs.size, _, I.laid (t' := tk) (o := .dK (mergeK [] kvs)) (fun b w e => k b w (fun z => nomatch z) e) (Nat.le_refl _) ⟨hlen, hm, merged [] prs, KV.merge rel .nil, hd'⟩, rfl, q _ (I.hok.fresh (Nat.le_refl _))⟩
/-! ### dict(x) of a list or tuple of pairs, or of a dict -/
def dictAllM : List AV → CM AV := fun xs ah => match xs with
  | [.tup ys] => match pairA ah ys with
    | some kvs => .ok (.obj ah.length) (ah ++ [.dct (mergeKA [] kvs)])
    | none => .no
  | [.obj n] => match ah[n]? with
    | some (.dct kvs) => .ok (.obj ah.length) (ah ++ [.dct kvs])
    | _ => dictM [.obj n] ah
  | _ => .no
def rDictAll (K : PySem.W.Frag) : List V → Hp → VK → Prop := fun xs H Q => ((∃ (a : Addr) (ps : List Addr) (kvs : List (Key × V)), xs = [.ref a] ∧ SqL K H a (ps.map V.ref) ∧ Paired (fun p kv => SqT K H p [kV kv.1, kv.2]) ps kvs ∧ ∀ p, H p = none → Q (.ref p) (upd H p (.dK (mergeK [] kvs)))) ∨
  ∃ (a : Addr) (ps : List Addr) (kvs : List (Key × V)), xs = [.ref a] ∧ SqN K H a (ps.map V.ref) ∧ Paired (fun p kv => SqT K H p [kV kv.1, kv.2]) ps kvs ∧ ∀ p, H p = none → Q (.ref p) (upd H p (.dK (mergeK [] kvs)))) ∨
  ∃ (a : Addr) (kvs : List (Key × V)), xs = [.ref a] ∧ Rd H a (.dK kvs) ∧ ∀ p, H p = none → Q (.ref p) (upd H p (.dK kvs))
theorem cr_dictAll {X : Cx} (hc : X.calm = true) : CallR X (.type "dict") (rDictAll X.K) := CallR.or (CallR.or (call_dictP hc) (cr_dictT hc)) call_dictD
theorem ca_dictAll {C : KC} {E : XK} : CaS C E (rDictAll C.K) dictAllM := by
  intro ρ ah H xs vs Q R rs q
  unfold dictAllM at q
  split at q
  · rename_i ys
    obtain ⟨v, rfl, rv⟩ := rs.one_inv
    obtain ⟨p, us, rfl, hs, ru⟩ := rv.tup_invN
    split at q
    · rename_i kvs hk
      obtain ⟨ps, ws, rfl, b, c⟩ := pairA_rel ru hk
      exact .inl (.inr ⟨p, ps, ws, rfl, hs, b, Aft.dct R q (kvs_merge c ⟨rfl, .nil⟩)⟩)
    · exact (show False from q).elim
  · rename_i n
    have rs0 := rs
    obtain ⟨v, rfl, rv⟩ := rs.one_inv
    obtain ⟨hn, rfl⟩ := rv.obj_inv
    split at q
    · rename_i kvs e
      obtain ⟨ws, h1, h2⟩ := R.obj _ _ e
      exact .inr ⟨_, ws, rfl, .inl h1, Aft.dct R q h2⟩
    · exact .inl (.inl (cs_dict ρ ah H _ _ Q R rs0 q))
  · exact (show False from q).elim
/-! ### str(x) of a text or an int -/
def strAllM : List AV → CM AV := fun xs ah => match xs with
  | [.str s] => .ok (.str s) ah
  | [.int i] => if i.natAbs.log2 < 1920 then .ok (.str (toString i)) ah else .no
  | _ => .no
theorem ca_strAll {C : KC} {E : XK} : CaS C E (fun xs H Q => (∃ i, xs = [.int i] ∧ i.natAbs.log2 < 1920 ∧ Q (.str (toString i)) H) ∨ ∃ a, xs = [.str a] ∧ Q (.str a) H) strAllM := by
  intro ρ ah H xs vs Q R rs q
  unfold strAllM at q
  split at q
  · rename_i s
    obtain ⟨v, rfl, rv⟩ := rs.one_inv
    cases rv.str_inv
    exact .inr ⟨s, rfl, Aft.here R q (.str _)⟩
  · rename_i i
    obtain ⟨v, rfl, rv⟩ := rs.one_inv
    cases rv.int_inv
    split at q
    · exact .inl ⟨i, rfl, ‹_›, Aft.here R q (.str _)⟩
    · exact (show False from q).elim
  · exact (show False from q).elim
theorem cr_strAll {X : Cx} : CallR X (.type "str") (fun xs H Q => (∃ i, xs = [.int i] ∧ i.natAbs.log2 < 1920 ∧ Q (.str (toString i)) H) ∨ ∃ a, xs = [.str a] ∧ Q (.str a) H) := CallR.or call_str_int SkE.call_str_str
theorem x_get2 {X : Cx} {E : XK} {apos cpos : Pos} {o e f : Expr} {co ck cz : CE} {k : Nat} (hr : Room k X.A) (ho : PE X o (tE (kc X) E co)) (he : PE X e (tE (kc X) E ck)) (hf : PE X f (tE (kc X) E cz))
    (h1 : attributeBase o "get" X.env (eval o X.env) = eval o X.env := by rfl)
    (h2 : ((backTo cpos (starEach [e, f] X.env)).all (fun x => !x.1) && (backToKw cpos (keywordEach [] X.env)).all (fun x => x.1.isSome) && decide (([e, f] : List Expr).length + ([] : List Keyword).length + (if ([] : List Keyword).isEmpty then 0 else 1) < 30)) = true := by rfl)
    (h3 : (apos.endLine == cpos.line) = true := by rfl) (h4 : backTo cpos (starEach [e, f] X.env) = [(false, eval e X.env), (false, eval f X.env)] := by rfl) :
    PE X (.Call (.Attribute o "get" apos) [e, f] [] cpos) (tE (kc X) E (cDGet2 co ck cz)) := e_dget2 (by have := hr.un; omega) ho he hf ⟨h1, h2, h3, h4⟩
end Sm

set_option Elab.async false
set_option linter.all false
set_option maxRecDepth 100000
set_option maxHeartbeats 4000000
namespace Sm
open PySem PySem.Spec PyProof.Rows L2

/-! ### calls with keywords and defaults -/
section
variable {X : Cx} {E : XK} {kws : List Keyword} {nm : Option Str} {kpos : Pos} {e : Expr} {c : CE} {cs : CA}
theorem pk_imp {t t' : TA} (h : PK X kws t) (k : ∀ σ H Q, t' σ H Q → t σ H Q) : PK X kws t' := ⟨fun pos pins s σ H Q I q => h.run pos pins s σ H Q I (k σ H Q q)⟩
theorem k_nil : PK X [] (tA (kc X) E caNil) := pk_imp pk_nil fun σ H Q ⟨ρ, ah, env, R, RE, q⟩ => AftA.here R q .nil
theorem k_cons (ha : PE X e (tE (kc X) E c)) (hr : PK X kws (tA (kc X) E cs)) : PK X (⟨nm, e, kpos⟩ :: kws) (tA (kc X) E (caCons c cs)) := pk_imp (pk_cons ha hr) fun σ H Q ⟨ρ, ah, env, R, RE, q⟩ => by
  refine ⟨ρ, ah, env, R, RE, ?_⟩
  unfold caCons bind at q
  cases ha : c env ah with
  | no => rw [ha] at q; exact q
  | er x ah1 => rw [ha] at q; exact q
  | ok x ah1 =>
    rw [ha] at q
    intro ρ1 H1 v e1 R1 r
    refine ⟨ρ1, ah1, env, R1, RE.mono e1, ?_⟩
    replace q := AftA.pre e1 q
    dsimp only at q
    cases hb : cs env ah1 with
    | no => rw [hb] at q; exact q
    | er x ah1 => rw [hb] at q; exact q
    | ok ys ah2 =>
      rw [hb] at q
      exact fun ρ2 H2 vs e2 R2 rs => q ρ2 H2 _ e2 R2 (.cons (r.mono e2) rs)
end
/-- how values come to the parameters: n by place, some by name, the rest by default -/
def Gives (C : KC) (gA : List AV → List AV → List AV) (gV : List V → List V → List V) : Prop := ∀ ρ n H xs vs zs ws, RVs C ρ n H xs vs → RVs C ρ n H zs ws → RVs C ρ n H (gA xs zs) (gV vs ws)
structure HasK (P : Program) (w : World) (K : PySem.W.Frag) (mg : Str → Option Value) (base : Heap) (k : Nat) (at_ : Str × Option Str) (ps : List Str) (m : List AV → CM AV) (n : Nat) (ks : List Str) (gA : List AV → List AV → List AV) : Prop where
  ex : ∃ fd g gV, FnOk P w K mg base (L2.CX P w) k (He.fAd K at_) fd ps (spM ⟨K, mg⟩ ps.length m) ∧ KBn K fd ps n ks g gV ∧ Gives ⟨K, mg⟩ gA gV ∧ PySem.W.keepIn K (.ref (He.fAd K at_)) = true
def cCallK (k n j : Nat) (m : List AV → CM AV) (gA : List AV → List AV → List AV) (cs ck : CA) : CE := fun env => bind (cs env) fun xs => bind (ck env) fun zs => if xs.length = n ∧ zs.length = j ∧ (gA xs zs).length = k then m (gA xs zs) else no
def cMakeK (c : Str) (k n j : Nat) (m : List AV → CM AV) (gA : List AV → List AV → List AV) (cs ck : CA) : CE := fun env => bind (cs env) fun xs => bind (ck env) fun zs => fun ah =>
  if xs.length = n ∧ zs.length = j ∧ (gA (.obj ah.length :: xs) zs).length = k then match m (gA (.obj ah.length :: xs) zs) (ah ++ [.ins c []]) with
    | .ok .non ah1 => .ok (.obj ah.length) ah1
    | .er x ah1 => .er x ah1
    | _ => .no else .no
section
variable {X : Cx} {E : XK} {x : Str} {p pos : Pos} {e : Expr} {es : List Expr} {kws : List Keyword} {cs ck : CA} {j k n : Nat} {ps ks : List Str} {m : List AV → CM AV} {gA : List AV → List AV → List AV} {gV : List V → List V → List V}
theorem callk_cut {l : Nat} (hG : Gives (kc X) gA gV) {σ : L2.St} {H : Hp} {Q : VK} (q : tE (kc X) E (cCallK k n l m gA cs ck) σ H Q) : tCallN n l (spM (kc X) k m) gV E (tA (kc X) E cs) (tA (kc X) E ck) σ H Q := by
  obtain ⟨ρ, ah, env, R, RE, q⟩ := q
  refine ⟨ρ, ah, env, R, RE, ?_⟩
  unfold cCallK at q
  cases ha : cs env ah with
  | no => simp only [bind, ha] at q; exact q
  | er x ah1 => simp only [bind, ha] at q; exact q
  | ok xs ah1 =>
    simp only [bind, ha] at q
    intro ρ1 H1 vs e1 R1 r
    refine ⟨ρ1, ah1, env, R1, RE.mono e1, ?_⟩
    replace q := Aft.pre e1 q
    cases hb : ck env ah1 with
    | no => simp only [hb] at q; exact q
    | er x ah1 => simp only [hb] at q; exact q
    | ok zs ah2 =>
      simp only [hb] at q
      intro ρ2 H2 ws e2 R2 rs
      replace q := Aft.pre e2 q
      split at q
      · rename_i hl
        exact ⟨by rw [← r.length]; exact hl.1, by rw [← rs.length]; exact hl.2.1, ρ2, ah2, gA xs zs, R2, hG _ _ _ _ _ _ _ (r.mono e2) rs, hl.2.2, q⟩
      · exact (show False from q).elim
theorem makek_cut {l : Nat} {Ca : Addr} (hm : X.mg x = some (.ref Ca)) (hG : Gives (kc X) gA gV) {σ : L2.St} {H : Hp} {Q : VK} (q : tE (kc X) E (cMakeK x k n l m gA cs ck) σ H Q) : tMakeN Ca n l (spM (kc X) k m) gV E (tA (kc X) E cs) (tA (kc X) E ck) σ H Q := by
  obtain ⟨ρ, ah, env, R, RE, q⟩ := q
  refine ⟨ρ, ah, env, R, RE, ?_⟩
  unfold cMakeK at q
  cases ha : cs env ah with
  | no => simp only [bind, ha] at q; exact q
  | er x ah1 => simp only [bind, ha] at q; exact q
  | ok xs ah1 =>
    simp only [bind, ha] at q
    intro ρ1 H1 vs e1 R1 r
    refine ⟨ρ1, ah1, env, R1, RE.mono e1, ?_⟩
    replace q := Aft.pre e1 q
    cases hb : ck env ah1 with
    | no => simp only [hb] at q; exact q
    | er x ah1 => simp only [hb] at q; exact q
    | ok zs ah2 =>
      simp only [hb] at q
      intro ρ2 H2 ws e2 R2 rs
      replace q := Aft.pre e2 q
      replace r := r.mono e2
      split at q
      · rename_i hl
        refine ⟨by rw [← r.length]; exact hl.1, by rw [← rs.length]; exact hl.2.1, fun y dx hy hdx ne => ?_⟩
        have kp : ∀ b w, H2 b = some w → upd (upd H2 dx (.own y)) y (.ins Ca dx []) b = some w := fun b w hb => by rw [upd_ne (ne_of_none hb hy), upd_ne (ne_of_none hb hdx)]; exact hb
        have e : Ext ρ2 ah2.length H2 (rput ρ2 ah2.length y) (ah2.length + 1) (upd (upd H2 dx (.own y)) y (.ins Ca dx [])) := .alloc kp hy
        have hlen : (ah2 ++ [AO.ins x []]).length = ah2.length + 1 := by simp
        have R' := R2.alloc (o := .ins x []) kp hy ⟨Ca, dx, [], hm, upd_same, rfl, .nil⟩
        have z : RV (kc X) (rput ρ2 ah2.length y) (ah2.length + 1) (upd (upd H2 dx (.own y)) y (.ins Ca dx [])) (.obj ah2.length) (.ref y) := by
          have z0 : RV (kc X) (rput ρ2 ah2.length y) (ah2.length + 1) (upd (upd H2 dx (.own y)) y (.ins Ca dx [])) (.obj ah2.length) (.ref (rput ρ2 ah2.length y ah2.length)) := .obj (Nat.lt_succ_self _)
          rw [rput_same] at z0
          exact z0
        refine ⟨_, _, gA (.obj ah2.length :: xs) zs, R', ?_, hl.2.2, ?_⟩
        · rw [hlen]
          exact hG _ _ _ _ _ _ _ (.cons z (r.mono e)) (rs.mono e)
        · rw [hlen]
          cases hh : m (gA (.obj ah2.length :: xs) zs) (ah2 ++ [.ins x []]) with
          | no => rw [hh] at q; exact q
          | er w ah3 => rw [hh] at q; exact Aft.pre e q
          | ok w ah3 =>
            rw [hh] at q
            intro ρ3 H3 v e3 R3 rv
            cases w with
            | non => exact ⟨rv.non_inv, q ρ3 H3 _ (e.trans e3) R3 (z.mono e3)⟩
            | _ => exact (show False from q).elim
      · exact (show False from q).elim
theorem x_callN (F : HasK X.prog X.w X.K X.mg X.base j (x, none) ps m n ks gA) (hr : Room k X.A) (hjk : j ≤ k) (hm : X.mg x = some (.ref (He.ga X.K x))) (hx : Passes (L2.CX X.prog X.w) X E) (ha : PA X (e :: es) (tA (kc X) E cs)) (hkw : PK X kws (tA (kc X) E ck)) (hg : Gl X x := by rfl)
    (hall : (backToKw pos (keywordEach kws X.env)).all (·.1.isSome) = true := by rfl) (hks : (backToKw pos (keywordEach kws X.env)).filterMap (·.1) = ks := by rfl)
    (hdb : (x == ("__debug__" : Str)) = false := by decide) (he : starEach (e :: es) X.env = (false, eval e X.env) :: starEach es X.env := by rfl)
    (hpl : ((backTo pos (starEach (e :: es) X.env)).any (·.1) || (backToKw pos (keywordEach kws X.env)).any (·.1.isNone)) = false := by rfl) :
    PE X (.Call (.Name x p) (e :: es) kws pos) (tE (kc X) E (cCallK ps.length n ks.length m gA cs ck)) := by
  obtain ⟨fd, g, gV, F, b, hG, kp⟩ := F.ex
  exact pe_imp (pe_callN F (hr.mono hjk) hg hm kp b hx ha hkw hall hks hdb he hpl) fun _ _ _ q => callk_cut hG q
theorem x_makeN (F : HasK X.prog X.w X.K X.mg X.base j (x, some "__init__") ps m (n + 1) ks gA) (hr : Room k X.A) (hjk : j + 1 ≤ k) (M : Mk X.K (He.ga X.K x) (He.ma X.K (He.ga X.K x) "__init__")) (hm : X.mg x = some (.ref (He.ga X.K x))) (hx : Passes (L2.CX X.prog X.w) X E) (ha : PA X (e :: es) (tA (kc X) E cs)) (hkw : PK X kws (tA (kc X) E ck)) (hg : Gl X x := by rfl)
    (hall : (backToKw pos (keywordEach kws X.env)).all (·.1.isSome) = true := by rfl) (hks : (backToKw pos (keywordEach kws X.env)).filterMap (·.1) = ks := by rfl)
    (hdb : (x == ("__debug__" : Str)) = false := by decide) (he : starEach (e :: es) X.env = (false, eval e X.env) :: starEach es X.env := by rfl)
    (hpl : ((backTo pos (starEach (e :: es) X.env)).any (·.1) || (backToKw pos (keywordEach kws X.env)).any (·.1.isNone)) = false := by rfl) :
    PE X (.Call (.Name x p) (e :: es) kws pos) (tE (kc X) E (cMakeK x ps.length n ks.length m gA cs ck)) := by
  obtain ⟨fd, g, gV, F, b, hG, _⟩ := F.ex
  exact pe_imp (pe_makeN M F (hr.mono hjk) hg hm b hx ha hkw hall hks hdb he hpl) fun _ _ _ q => makek_cut hm hG q
/-- C(k = v, ..) -/
theorem x_makeK0 (F : HasK X.prog X.w X.K X.mg X.base j (x, some "__init__") ps m 1 ks gA) (hr : Room k X.A) (hjk : j + 1 ≤ k) (M : Mk X.K (He.ga X.K x) (He.ma X.K (He.ga X.K x) "__init__")) (hm : X.mg x = some (.ref (He.ga X.K x))) (hx : Passes (L2.CX X.prog X.w) X E) (hkw : PK X kws (tA (kc X) E ck)) (hg : Gl X x := by rfl)
    (hall : (backToKw pos (keywordEach kws X.env)).all (·.1.isSome) = true := by rfl) (hks : (backToKw pos (keywordEach kws X.env)).filterMap (·.1) = ks := by rfl) (hdb : (x == ("__debug__" : Str)) = false := by decide)
    (hpl : ((backTo pos (starEach [] X.env)).any (·.1) || (backToKw pos (keywordEach kws X.env)).any (·.1.isNone)) = false := by rfl) :
    PE X (.Call (.Name x p) [] kws pos) (tE (kc X) E (cMakeK x ps.length 0 ks.length m gA caNil ck)) := by
  obtain ⟨fd, g, gV, F, b, hG, _⟩ := F.ex
  exact pe_imp (pe_makeK0 M F (hr.mono hjk) hg hm b hx hkw hall hks hdb hpl) fun σ H Q q => by
    obtain ⟨ρ, ah, env, R, RE, q2⟩ := makek_cut hm hG q
    exact AftA.here R q2 .nil
/-- f(k = v, ..) -/
theorem x_callK0 (F : HasK X.prog X.w X.K X.mg X.base j (x, none) ps m 0 ks gA) (hr : Room k X.A) (hjk : j ≤ k) (hm : X.mg x = some (.ref (He.ga X.K x))) (hx : Passes (L2.CX X.prog X.w) X E) (hkw : PK X kws (tA (kc X) E ck)) (hg : Gl X x := by rfl)
    (hall : (backToKw pos (keywordEach kws X.env)).all (·.1.isSome) = true := by rfl) (hks : (backToKw pos (keywordEach kws X.env)).filterMap (·.1) = ks := by rfl) (hdb : (x == ("__debug__" : Str)) = false := by decide)
    (hpl : ((backTo pos (starEach [] X.env)).any (·.1) || (backToKw pos (keywordEach kws X.env)).any (·.1.isNone)) = false := by rfl) :
    PE X (.Call (.Name x p) [] kws pos) (tE (kc X) E (cCallK ps.length 0 ks.length m gA caNil ck)) := by
  obtain ⟨fd, g, gV, F, b, hG, kp⟩ := F.ex
  refine ⟨fun pins s σ H Q I q => ?_⟩
  have z := callk_cut hG q
  obtain ⟨ρ, ah, env, R, RE, z⟩ := z
  have z2 := AftA.here R z (.nil : RVs (kc X) ρ ah.length H [] [])
  refine wpAny_Call_Name_kw (ld_glob I hg hm ?_ hdb)
  refine PySem.W.callWith_KW0 (h₀ := X.base) I.ok.mod.kin kp hall ?_ hpl
  refine thn (hkw.run pos pins s σ H _ I z2) ?_
  rintro us s2 ⟨zs, H2, I2, rz, l1, l2, q2⟩
  refine ⟨I2.kIn, ?_⟩
  rw [hks]
  exact run_fnN (us := []) (vs := []) F (hr.mono hjk) b hx I2 .nil rz rfl l2 q2
end
end Sm

set_option Elab.async false
set_option linter.all false
set_option maxRecDepth 100000
set_option maxHeartbeats 4000000
namespace Sm
open PySem PySem.Spec PyProof.Rows L2

/-! ### the head's facts, with some of one's own beside -/
def hookX (n : Nat) (fa : List He.Fa) (fn : List He.DefD) (ex : PySem.W.Frag → Bool) : PySem.W.Hook where
  α := He.AlD × Bool
  obs := fun s => (He.obsDG n fa fn s.heap.get?, ex (He.frG s.heap.get? (He.asD s.heap.get? n)))
  val := fun _ => (He.valD fn, true)
  says := fun _ h => ∃ K : PySem.W.Frag, K.In h ∧ He.SaysD fa fn K ∧ ex K = true
  of := fun _ _ e => ⟨_, He.frG_in, congrArg Prod.fst e, congrArg Prod.snd e⟩
  keeps := fun _ _ _ ⟨K, hK, c⟩ k => ⟨K, PySem.W.Frag.In.keeps hK k, c⟩
def obsX (n : Nat) (fa : List He.Fa) (fn : List He.DefD) (ex : PySem.W.Frag → Bool) (g : Addr → Option Obj) : He.AlD × Bool := (He.obsDG n fa fn g, ex (He.frG g (He.asD g n)))
theorem obsX_eq {n : Nat} {fa : List He.Fa} {fn : List He.DefD} {ex : PySem.W.Frag → Bool} {g : Addr → Option Obj} {s : Shared} (h : ∀ a, g a = s.heap.get? a) : obsX n fa fn ex g = (hookX n fa fn ex).obs s := by
  have e : g = s.heap.get? := funext h
  rw [e] <;> rfl
theorem flat_rd {C : KC} : ∀ {xs : List AV} {vs : List V}, flatAll xs = some vs → RDs C xs vs
  | [], _, h => by cases h; exact fun _ _ _ => .nil
  | x :: xs, vs, h => by
    unfold flatAll at h
    split at h
    · rename_i v vs' h1 h2
      cases h
      have r := flat_rd (C := C) h2
      intro ρ n H
      refine .cons ?_ (r ρ n H)
      cases x <;> first | (cases h1; done) | skip
      all_goals first
        | (cases h1; exact .non)
        | (cases h1; exact .bl _)
        | (cases h1; exact .int _)
        | (cases h1; exact .str _)
        | (cases h1)
    · cases h
theorem topTup_ok {K : PySem.W.Frag} {mg : Str → Option Value} {x : Str} {xs : List AV} (h : topTup K x xs = true) : ∃ vs, (∀ H, SqN K H (He.ga K x) vs) ∧ RDs ⟨K, mg⟩ xs vs := by
  unfold topTup at h
  split at h
  · rename_i vs c its n sl h1 h2
    obtain ⟨a, b⟩ := He.ba h
    obtain ⟨b, d⟩ := He.ba b
    have hc := of_decide_eq_true a
    subst hc
    exact ⟨vs, fun H => .inr ⟨_, its, n, h2, rfl, rfl, rfl, of_decide_eq_true b, He.relAll_ok d⟩, flat_rd h1⟩
  · cases h
theorem tgv_of {K : PySem.W.Frag} {mg : Str → Option Value} {cs : List Str} (hm : ∀ c ∈ cs, mg c = some (.ref (He.ga K c))) {a : Tg} {t : Value} (h : TgV ⟨K, mg⟩ a t) (hc : tagIn cs a = true) : t = tgv K a := by
  cases h with
  | bi s => rfl
  | own e =>
    rename_i c a
    have z := hm c (by simpa [tagIn] using hc)
    have z2 := e.symm.trans z
    cases z2
    rfl
theorem tab_ok {K : PySem.W.Frag} {mg : Str → Option Value} {cs : List Str} (hm : ∀ c ∈ cs, mg c = some (.ref (He.ga K c))) : ∀ {tb : ITab}, tabB K cs tb = true → TabOk ⟨K, mg⟩ tb
  | [], _ => fun a b r h => by cases h
  | (x, y, z) :: tb, h => fun a b r e t u ht hu => by
    obtain ⟨h1, h2⟩ := He.ba (show ((tagIn cs x && (tagIn cs y && decide (PySem.W.kitOne K (tgv K x) (tgv K y) = some z))) && tabB K cs tb) = true from h)
    unfold tabGet at e
    split at e
    · rename_i q
      obtain ⟨rfl, rfl⟩ := q
      cases e
      obtain ⟨a1, a2⟩ := He.ba h1
      obtain ⟨a2, a3⟩ := He.ba a2
      cases tgv_of hm ht a1
      cases tgv_of hm hu a2
      exact of_decide_eq_true a3
    · exact tab_ok hm h2 a b r e t u ht hu
theorem ins_ok {K : PySem.W.Frag} {mg : Str → Option Value} {cs : List Str} (hm : ∀ c ∈ cs, mg c = some (.ref (He.ga K c))) (h : insB K cs = true) : InsTy ⟨K, mg⟩ cs := by
  intro c hc a ha
  have z := (show mg c = some (.ref a) from ha).symm.trans (hm c hc)
  cases z
  obtain ⟨k1, k2⟩ := He.ba (List.all_eq_true.mp h c hc)
  obtain ⟨k2, k3⟩ := He.ba k2
  obtain ⟨k3, k4⟩ := He.ba k3
  obtain ⟨k4, k5⟩ := He.ba k4
  exact ⟨He.cls_ok k1, He.eqO_ok k2, He.eqO_ok k3, of_decide_eq_true k4, of_decide_eq_true k5⟩
theorem fld_ok {K : PySem.W.Frag} {mg : Str → Option Value} {cs : List Str} {f : Str} (hm : ∀ c ∈ cs, mg c = some (.ref (He.ga K c))) (h : fldB K cs f = true) : ClsOf ⟨K, mg⟩ cs f := by
  intro c hc a ha
  have z := (show mg c = some (.ref a) from ha).symm.trans (hm c hc)
  cases z
  obtain ⟨k1, k2⟩ := He.ba (List.all_eq_true.mp h c hc)
  exact ⟨He.cls_ok k1, He.noat_ok k2⟩
end Sm

set_option Elab.async false
set_option linter.all false
set_option maxRecDepth 100000
set_option maxHeartbeats 4000000
namespace Sm
open PySem PySem.Spec PyProof.Rows L2

/-! ### sorted(xs) of ints or of texts -/
section
variable {α : Type} (lt : α → α → Bool)
def insBy (x : α) : List α → List α
  | [] => [x]
  | y :: r => if lt y x = true then y :: insBy x r else x :: y :: r
def sortBy : List α → List α
  | [] => []
  | x :: r => insBy lt x (sortBy r)
theorem insBy_perm (x : α) : ∀ l, (insBy lt x l).Perm (x :: l)
  | [] => .refl _
  | y :: r => by
    unfold insBy
    split
    · exact ((insBy_perm x r).cons y).trans (.swap x y r)
    · exact .refl _
theorem sortBy_perm : ∀ l, (sortBy lt l).Perm l
  | [] => .refl _
  | x :: r => (insBy_perm lt x _).trans ((sortBy_perm r).cons x)
variable {lt} (asym : ∀ a b, lt a b = true → lt b a = false) (trans : ∀ a b c, lt b a = false → lt c b = false → lt c a = false)
include asym trans
theorem insBy_sorted (x : α) : ∀ l : List α, l.Pairwise (fun a b => lt b a = false) → (insBy lt x l).Pairwise (fun a b => lt b a = false)
  | [], _ => by simp [insBy]
  | y :: r, h => by
    obtain ⟨h1, h2⟩ := List.pairwise_cons.mp h
    unfold insBy
    split
    · rename_i hlt
      refine List.pairwise_cons.mpr ⟨fun z hz => ?_, insBy_sorted x r h2⟩
      rcases List.mem_cons.mp ((insBy_perm lt x r).mem_iff.mp hz) with rfl | hz
      · exact asym _ _ hlt
      · exact h1 z hz
    · rename_i hlt
      have hlt : lt y x = false := by simpa using hlt
      refine List.pairwise_cons.mpr ⟨fun z hz => ?_, h⟩
      rcases List.mem_cons.mp hz with rfl | hz
      · exact hlt
      · exact trans _ _ _ hlt (h1 z hz)
theorem sortBy_sorted : ∀ l : List α, (sortBy lt l).Pairwise (fun a b => lt b a = false)
  | [] => .nil
  | x :: r => insBy_sorted asym trans x _ (sortBy_sorted r)
theorem sortBy_same (anti : ∀ a b, lt b a = false → lt a b = false → a = b) {l m : List α} (p : m.Perm l) (h : m.Pairwise (fun a b => lt b a = false)) : m = sortBy lt l :=
  (p.trans (sortBy_perm lt l).symm).eq_of_pairwise (fun a b _ _ h1 h2 => anti a b h1 h2) h (sortBy_sorted asym trans l)
end
def ltI (a b : Int) : Bool := decide (a < b)
def intsOf : List AV → Option (List Int)
  | [] => some []
  | x :: r => match x, intsOf r with
    | .int i, some is => some (i :: is)
    | _, _ => none
theorem ints_rel {C : KC} {ρ : Nat → Addr} {n : Nat} {H : Hp} : ∀ {xs : List AV} {vs : List V} {is : List Int}, RVs C ρ n H xs vs → intsOf xs = some is → vs = is.map V.int
  | _, _, _, .nil, h => by cases h; rfl
  | x :: xs, _, is, .cons r q, h => by
    unfold intsOf at h
    split at h
    · rename_i i is' h2
      cases h
      cases r.int_inv
      rw [ints_rel q h2]
      rfl
    · cases h
theorem rvs_ints {C : KC} {ρ : Nat → Addr} {n : Nat} {H : Hp} : ∀ is : List Int, RVs C ρ n H (is.map AV.int) (is.map V.int)
  | [] => .nil
  | i :: r => .cons (.int i) (rvs_ints r)
def sortedIM : List AV → CM AV := fun xs ah => match xs with
  | [.obj n] => match lstAt ah n with
    | some ys => match intsOf ys with
      | some is => .ok (.obj ah.length) (ah ++ [.lst ((sortBy ltI is).map .int)])
      | none => .no
    | none => .no
  | _ => .no
theorem ca_sortedI {C : KC} {E : XK} : CaS C E (rSortedI C.K) sortedIM := by
  intro ρ ah H xs vs Q R rs q
  unfold sortedIM at q
  split at q
  · rename_i n
    obtain ⟨v, rfl, rv⟩ := rs.one_inv
    obtain ⟨hn, rfl⟩ := rv.obj_inv
    split at q
    · rename_i ys hl
      split at q
      · rename_i is hi
        obtain ⟨_, us, h1, h2⟩ := R.lst hl
        cases ints_rel h2 hi
        refine ⟨_, is, rfl, h1, fun ns p hp hs hn => ?_⟩
        have e : ns = sortBy ltI is := sortBy_same (lt := ltI) (fun a b h => by simp [ltI] at h ⊢; omega) (fun a b c h1 h2 => by simp [ltI] at h1 h2 ⊢; omega) (fun a b h1 h2 => by simp [ltI] at h1 h2; omega) hp (hs.imp fun {a b} h => by simp [ltI]; omega)
        subst e
        exact Aft.lst R q (rvs_ints _) p hn
      · exact (show False from q).elim
    · exact (show False from q).elim
  · exact (show False from q).elim
/-! texts -/
def ltStr (a b : Str) : Bool := ltCps a.cps.toList b.cps.toList
theorem ltStr_iff {a b : Str} : ltStr a b = true ↔ a.cps.toList < b.cps.toList := by
  unfold ltStr
  rw [ltCps_eq]
  simp
theorem ltStr_no {a b : Str} : ltStr a b = false ↔ ¬ a.cps.toList < b.cps.toList := by
  unfold ltStr
  rw [ltCps_eq]
  simp
theorem ltStr_asym (a b : Str) (h : ltStr a b = true) : ltStr b a = false := ltStr_no.mpr fun z => List.lt_irrefl _ (List.lt_trans (ltStr_iff.mp h) z)
theorem ltStr_trans (a b c : Str) (h1 : ltStr b a = false) (h2 : ltStr c b = false) : ltStr c a = false := ltStr_no.mpr (List.not_lt.mpr (List.le_trans (List.not_lt.mp (ltStr_no.mp h1)) (List.not_lt.mp (ltStr_no.mp h2))))
theorem ltStr_anti (a b : Str) (h1 : ltStr b a = false) (h2 : ltStr a b = false) : a = b := by
  have e : a.cps.toList = b.cps.toList := List.le_antisymm (List.not_lt.mp (ltStr_no.mp h1)) (List.not_lt.mp (ltStr_no.mp h2))
  obtain ⟨x⟩ := a
  obtain ⟨y⟩ := b
  exact congrArg Str.mk (Array.toList_inj.mp e)
theorem rising_all : ∀ (p : Str) (l : List Str), risingS p l = true → (∀ z ∈ l, ltStr z p = false) ∧ l.Pairwise (fun a b => ltStr b a = false)
  | _, [], _ => ⟨(fun z hz => by cases hz), .nil⟩
  | p, x :: r, h => by
    obtain ⟨h1, h2⟩ := He.ba (show (!ltCps x.cps.toList p.cps.toList && risingS x r) = true from h)
    have h1 : ltStr x p = false := by simpa [ltStr] using h1
    obtain ⟨a, b⟩ := rising_all x r h2
    refine ⟨fun z hz => ?_, List.pairwise_cons.mpr ⟨fun z hz => a z hz, b⟩⟩
    rcases List.mem_cons.mp hz with rfl | hz
    · exact h1
    · exact ltStr_trans _ _ _ h1 (a z hz)
theorem sortedS_all {l : List Str} (h : sortedS l = true) : l.Pairwise (fun a b => ltStr b a = false) := by
  cases l with
  | nil => exact .nil
  | cons x r =>
    obtain ⟨a, b⟩ := rising_all x r h
    exact List.pairwise_cons.mpr ⟨fun z hz => a z hz, b⟩
def sortedAM : List AV → CM AV := fun xs ah => match xs with
  | [.obj n] => match lstAt ah n with
    | some ys => match textsOf ys with
      | some ss => if ss.length < 64 then .ok (.obj ah.length) (ah ++ [.lst (strsA (sortBy ltStr ss))]) else .no
      | none => sortedIM xs ah
    | none => .no
  | _ => .no
def rSortedA (K : PySem.W.Frag) : List V → Hp → VK → Prop := fun xs H Q => rSortedI K xs H Q ∨ rSortedS K xs H Q
theorem cr_sortedA {X : Cx} : CallR X (.builtin "sorted") (rSortedA X.K) := CallR.or cr_sortedI cr_sortedS
theorem ca_sortedA {C : KC} {E : XK} : CaS C E (rSortedA C.K) sortedAM := by
  intro ρ ah H xs vs Q R rs q
  unfold sortedAM at q
  split at q
  · rename_i n
    have rs0 := rs
    obtain ⟨v, rfl, rv⟩ := rs.one_inv
    obtain ⟨hn, rfl⟩ := rv.obj_inv
    split at q
    · rename_i ys hl
      split at q
      · rename_i ss hs
        split at q
        · obtain ⟨_, us, h1, h2⟩ := R.lst hl
          cases texts_rel h2 hs
          refine .inr ⟨_, ss, rfl, h1, ‹_›, fun ns p hp hs hn => ?_⟩
          have e : ns = sortBy ltStr ss := sortBy_same (lt := ltStr) ltStr_asym ltStr_trans ltStr_anti hp (sortedS_all hs)
          subst e
          exact Aft.lst R q (rvs_strs _) p hn
        · exact (show False from q).elim
      · exact .inl (ca_sortedI ρ ah H _ _ Q R rs0 q)
    · exact (show False from q).elim
  · exact (show False from q).elim
end Sm

set_option Elab.async false
set_option linter.all false
set_option maxRecDepth 100000
set_option maxHeartbeats 4000000
namespace Sm
open PySem PySem.Spec PyProof.Rows L2

/-! ### what the mirrors give, for lists of ints of any length -/
theorem canLay_ints : ∀ is : List Int, PyData.canLayAll0 (is.map PyData.int) = true
  | [] => by simp [PyData.canLayAll0]
  | i :: r => by
    have h := canLay_ints r
    simp [PyData.canLayAll0, PyData.canLay0, h]
theorem depth_ints : ∀ is : List Int, PyData.depthAll (is.map PyData.int) ≤ 1
  | [] => by simp [PyData.depthAll]
  | i :: r => by
    have h := depth_ints r
    simp only [List.map_cons, PyData.depthAll, PyData.depth]
    omega
theorem shaped_ints (is : List Int) : SeqAt.shaped (.list (is.map PyData.int)) = true := by
  have h1 := canLay_ints is
  have h2 := depth_ints is
  have h3 : (PyData.list (is.map PyData.int)).canLay0 = true := by
    unfold PyData.canLay0
    exact h1
  have h4 : (PyData.list (is.map PyData.int)).depth ≤ 64 := by
    unfold PyData.depth
    omega
  unfold SeqAt.shaped
  rw [h3, decide_eq_true h4]
  rfl
theorem data_ints (ah : AH) : ∀ (is : List Int) (f : Nat), is.length + 1 < f → dataAll f ah (is.map AV.int) = some (is.map PyData.int)
  | [], f + 1, _ => by simp [dataAll]
  | [], 0, h => by simp at h
  | i :: r, 0, h => by simp at h
  | i :: r, f + 1, h => by
    have h' : r.length + 1 < f := by simp only [List.length_cons] at h; omega
    have h1 := data_ints ah r f h'
    have h2 : dataOf f ah (.int i) = some (.int i) := by
      cases f with
      | zero => omega
      | succ f => simp [dataOf]
    rw [List.map_cons, dataAll]
    simp only [h1, h2, List.map_cons]
theorem dataOf_ints {ah : AH} {l : Nat} {is : List Int} (h : lstAt ah l = some (is.map AV.int)) (hl : is.length < 90000) : dataOf FUEL ah (.obj l) = some (.list (is.map .int)) := by
  show dataOf (99999 + 1) ah (.obj l) = _
  simp only [dataOf, h]
  rw [data_ints ah is 99999 (by omega)]
  rfl
theorem ne_ints {ah : AH} {l e : Nat} {is js : List Int} (h : lstAt ah l = some (is.map AV.int)) (h2 : lstAt ah e = some (js.map AV.int)) (hl : is.length < 90000) (hl2 : js.length < 90000) :
    eqM true (.obj l) (.obj e) ah = .ok (.bl (!PyData.eqv (.list (is.map .int)) (.list (js.map .int)))) ah := by
  unfold eqM
  rw [dataOf_ints h hl, dataOf_ints h2 hl2]
  simp only [shaped_ints, and_self, if_true]
theorem eqv_nil (is : List Int) : PyData.eqv (.list (is.map .int)) (.list []) = is.isEmpty := by
  cases is <;> simp [PyData.eqv, PyData.eqvAll]
end Sm

set_option Elab.async false
set_option linter.all false
set_option maxRecDepth 100000
set_option maxHeartbeats 4000000
namespace Sm
open PySem PySem.Spec PyProof.Rows L2

/-! ### len(set(xs)): xs a list or tuple of ints and texts -/
def hasK (seen : List Key) (k : Key) : Bool := seen.any fun j => decide (j = k)
def addK (seen : List Key) (k : Key) : List Key := if hasK seen k = true then seen else seen ++ [k]
def addsK (seen : List Key) : List Key → List Key
  | [] => seen
  | k :: r => addsK (addK seen k) r
theorem hasK_add {seen : List Key} {k j : Key} : hasK (addK seen k) j = (hasK seen j || decide (j = k)) := by
  unfold addK
  split
  · rename_i h
    by_cases e : j = k
    · subst e; simp [h]
    · simp [e]
  · unfold hasK
    rw [List.any_append]
    by_cases e : j = k
    · subst e; simp
    · simp [e, Ne.symm e]
theorem addK_length {seen : List Key} {k : Key} : (addK seen k).length = if hasK seen k = true then seen.length else seen.length + 1 := by
  unfold addK
  split <;> simp
theorem addsK_length : ∀ (ks seen : List Key), (addsK seen ks).length ≤ seen.length + ks.length
  | [], seen => Nat.le_refl _
  | k :: r, seen => by
    have h1 := addsK_length r (addK seen k)
    have h2 := addK_length (seen := seen) (k := k)
    show (addsK (addK seen k) r).length ≤ seen.length + (r.length + 1)
    split at h2 <;> omega
theorem setOf_as {P : Program} {w : PySem.World} {h : Heap} {a : Addr} {S S' : Key → Bool} {n n' : Nat} (r : h.SetOf (mixKind P w) a S n) (e : ∀ k, S k = S' k) (en : n = n') : h.SetOf (mixKind P w) a S' n' := by
  cases funext e
  cases en
  exact r
theorem wkX {prog : Program} {w : PySem.World} {A : Around} (b : Bool) (hh : A.handled = none) {I l : Addr} (ne : l ≠ I) (items : Array Value) : Walks prog w A I [I, l] [I] items.size (fun i v => items[i]? = some v) (fun i h => ItX b h I l i ∧ SrX b h l items) := by
  cases b
  · exact .list hh I l ne items
  · exact .tuple hh I l ne items
theorem set_turns {prog : Program} {w : PySem.World} {A : Around} {R : Result → Shared → Prop} {I S l : Addr} {b : Bool} {items : Array Value} {ks : List Key} (hh : A.handled = none) (ne : l ≠ I) (nS : S ≠ I ∧ S ≠ l)
    (hv : ∀ (i : Nat) (k : Key), ks[i]? = some k → ∀ v, items[i]? = some v → RelV (kV k) v) (hl : items.size = ks.length) : ∀ (rest : List Key) (i : Nat) (seen : List Key) (s : Shared), ks.drop i = rest → i + rest.length = ks.length → ItX b s.heap I l i ∧ SrX b s.heap l items →
      s.heap.SetOf (mixKind prog w) S (hasK seen) seen.length → seen.length + rest.length + 1 < scanBound →
      (∀ h' tk, (∀ c o, c ≠ S → c ≠ I → s.heap.get? c = some o → h'.get? c = some o) → h'.SetOf (mixKind prog w) S (hasK (addsK seen rest)) (addsK seen rest).length → R (.ok (.ret .none)) { s with heap := h', toks := tk }) →
      codeAny (model prog w) A (.builtin "set.update.loop" ⟨[.ref S, .ref I], []⟩) R s := by
  have W := wkX (prog := prog) (w := w) (A := A.in1) b hh ne items
  have start : ∀ {s : Shared}, wpAny (model prog w) A.in1 (Builtin.«set.update.loop» ⟨[.ref S, .ref I], []⟩) (fun fin s' => match fin with | .done f => R (.ok f) s' | .again c' => c'.quiet = true ∧ codeAny (model prog w) A c' R s') (fun e s' => R (.error e) s') s → codeAny (model prog w) A (.builtin "set.update.loop" ⟨[.ref S, .ref I], []⟩) R s := fun h =>
    codeAny_builtin PyProof.Rows.F.entry_set_update_loop (by rw [Around.under_plainId PyProof.Rows.F.plain_set_update_loop _]; exact h)
  intro rest
  induction rest with
  | nil =>
    intro i seen s hd hi st hS hb hR
    have hi : i = items.size := by rw [hl]; simpa using hi
    subst hi
    refine start ?_
    show wpAny _ A.in1 (pyNext (.ref I) >>= _) _ _ s
    refine wpAny_bind (W.done s _ _ st fun h' tk kp => ?_)
    exact wpAny_pure (hR h' tk (fun c o _ h2 => kp c o (by simpa using h2)) (setOf_at hS fun o e => kp S o (by simpa using nS.1) e))
  | cons k r ih =>
    intro i seen s hd hi st hS hb hR
    have hk : ks[i]? = some k := by
      have := congrArg (·[0]?) hd
      simpa using this
    have hlt : i < items.size := by rw [hl]; simp at hi; omega
    refine start ?_
    show wpAny _ A.in1 (pyNext (.ref I) >>= _) _ _ s
    refine wpAny_bind (W.item i s _ _ hlt st fun v h' tk hP st' kp => ?_)
    have rv := hv i k hk v hP
    have hS' := setOf_at hS fun o e => kp S o (by simpa using nS.1) e
    show wpAny _ A.in1 (holding [v] (setAdd S v) >>= _) _ _ _
    refine wpAny_bind (wpAny_holding (wpAny_holding (wpAny_bind ((mixKind prog w).pyHash (k := k) (kV_is rv) ?_))))
    refine wpAny_setAddHashed_of (knd := mixKind prog w) (s := { s with heap := h', toks := tk + 1 }) (kV_is rv) (key_scan rv) hS' (by simp at hb; omega) fun h2 sb hS2 => ?_
    have hS3 := setOf_as (S' := hasK (addK seen k)) (n' := (addK seen k).length) hS2 (fun j => hasK_add.symm) addK_length.symm
    refine wpAny_pure ⟨plainId_quiet PyProof.Rows.F.plain_set_update_loop _, ih (i + 1) (addK seen k) _ (by rw [← List.drop_drop, hd]; rfl) (by simp at hi; omega) (W.frame _ _ _ st' fun c hc o e => ?_) hS3 ?_ fun h3 tk3 kp3 hS4 => hR h3 tk3 (fun c o h1 h2 e => kp3 c o h1 h2 ?_) hS4⟩
    · refine (sb.2 c ?_).trans e
      rintro rfl
      simp only [List.mem_cons, List.not_mem_nil, or_false] at hc
      rcases hc with rfl | rfl
      · exact nS.1 rfl
      · exact nS.2 rfl
    · have h2 := addK_length (seen := seen) (k := k)
      simp at hb
      split at h2 <;> omega
    · exact (sb.2 c h1).trans (kp c o (by simpa using h2) e)
abbrev newSetO (led : Bool) : Obj := { cls := .type "set", dict := none, data := .set #[] 0 (.fresh 0 0 led) }
def tyX : Bool → String
  | true => "tuple"
  | false => "list"
theorem srx_obj {b : Bool} {h : Heap} {l : Addr} {items : Array Value} (x : SrX b h l items) : ∃ o n, h.get? l = some o ∧ o.cls = .type (tyX b) ∧ o.data = .seq items n := by
  cases b
  · obtain ⟨o, ho, hc, n, hd⟩ := x
    exact ⟨o, n, ho, hc, hd⟩
  · obtain ⟨o, ho, hc, n, hd⟩ := x
    exact ⟨o, n, ho, hc, hd⟩
theorem subX (b : Bool) : isSubtype (.type (tyX b)) (.type "set") = pure false := by
  cases b
  · exact PySem.F.sub_list_set
  · exact PySem.F.sub_tuple_set
theorem subX2 (b : Bool) : isSubtype (.type (tyX b)) (.type "frozenset") = pure false := by
  cases b
  · exact PySem.F.sub_list_frozenset
  · exact PySem.F.sub_tuple_frozenset
/-- set(xs) fills the new set -/
theorem init_setX {prog : Program} {w : PySem.World} {A : Around} {E : Value → Shared → Prop} {s : Shared} {b : Bool} {l a : Addr} {led : Bool} {items : Array Value} {ks : List Key} {Q : Fin → Shared → Prop} (hh : A.handled = none) (hl : SrX b s.heap l items)
    (ha : s.heap.get? a = some (newSetO led)) (al : a ≠ l)
    (hv : ∀ (i : Nat) (k : Key), ks[i]? = some k → ∀ v, items[i]? = some v → RelV (kV k) v) (hlen : items.size = ks.length) (hb : ks.length + 1 < scanBound)
    (h : ∀ h' tk, h'.SetOf (mixKind prog w) a (hasK (addsK [] ks)) (addsK [] ks).length → (∀ c o, c ≠ a → s.heap.get? c = some o → h'.get? c = some o) → Q (.done (.ret .none)) { s with heap := h', toks := tk }) :
    wpAny (model prog w) A (Builtin.«set.__init__» ⟨[.ref a, .ref l], []⟩) Q E s := by
  obtain ⟨⟨cls, dd, dat, sl⟩, n, hol, hc, hd⟩ := srx_obj hl
  simp only at hc hd
  subst hc
  subst hd
  have e1 := subX b
  have e2 := subX2 b
  have e3 : (Value.type (tyX b) == Value.type "dict") = false := by cases b <;> decide
  have aI : a ≠ s.heap.objs.size := Nat.ne_of_lt (Heap.lt_size ha)
  have lI : l ≠ s.heap.objs.size := Nat.ne_of_lt (Heap.lt_size hol)
  have fin : wpAny (model prog w) A (runValue (.builtin "set.update.loop" ⟨[.ref a, .ref s.heap.objs.size], []⟩)) (fun _ s' => Q (.done (.ret .none)) s') E { s with heap := s.heap.push (itObj b l) } := by
    refine wpAny_runValue (set_turns (b := b) (l := l) (items := items) (ks := ks) hh lI ⟨aI, al⟩ hv hlen ks 0 [] _ rfl (by omega) ⟨itx_new (Heap.get?_push_size _ (by cases b <;> rfl)), (begX b l items).keeps _ _ hl fun c o e => Heap.get?_push_of_some _ e⟩ ?_ (by simpa using hb) fun h' tk kp hS => ?_)
    · exact ⟨_, #[], 0, _, Heap.get?_push_of_some _ ha, ⟨rfl, rfl, rfl⟩, rfl, (fun e he => by simp at he), (fun k => by simp [hasK]), (by decide), (by rfl), rfl⟩
    · exact h h' tk hS fun c o h1 e => kp c o h1 (Nat.ne_of_lt (Heap.lt_size e)) (Heap.get?_push_of_some _ e)
  unfold Builtin.«set.__init__» noKeywords Builtin.Frozenset.updateFrom
  have pi : ∀ (A : Around) (E : Value → Shared → Prop) (Q : Value → Shared → Prop), Q (.ref s.heap.objs.size) { s with heap := s.heap.push (itObj b l) } → wpAny (model prog w) A (pyIter (.ref l)) Q E s := fun A E Q q => (begX b l items).iter prog w A E s Q hl q
  generalize pyIter = PI at pi ⊢
  wp_walk
  exact pi _ _ _ (wpAny_bind (wpAny_mono fin (fun _ _ q => wpAny_pure (wpAny_pure q)) fun _ _ e => e))
theorem call_setX {prog : Program} {w : PySem.World} {A : Around} {E : Value → Shared → Prop} {s : Shared} {b : Bool} {l : Addr} {items : Array Value} {ks : List Key} {Q : Value → Shared → Prop} (hh : A.handled = none) (hl : SrX b s.heap l items)
    (hv : ∀ (i : Nat) (k : Key), ks[i]? = some k → ∀ v, items[i]? = some v → RelV (kV k) v) (hlen : items.size = ks.length) (hb : ks.length + 1 < scanBound)
    (h : ∀ h' tk, h'.SetOf (mixKind prog w) s.heap.objs.size (hasK (addsK [] ks)) (addsK [] ks).length → (∀ c o, s.heap.get? c = some o → h'.get? c = some o) → Q (.ref s.heap.objs.size) { s with heap := h', toks := tk }) :
    wpAny (model prog w) A (call (.type "set") [.ref l]) Q E s := by
  obtain ⟨c, tl, m1⟩ := PySem.F.called_set.mro
  have m2 := PySem.F.called_set.made
  have m3 := PySem.F.called_set.sub
  have m4 := PySem.F.called_set.notType
  have m5 := PySem.F.called_set.canCreate
  have m6 := PySem.F.typeCall_set_1 (.ref l)
  have lt : l < s.heap.objs.size := by obtain ⟨o, n, ho, _⟩ := srx_obj hl; exact Heap.lt_size ho
  refine wpAny_call (codeAny_of_tree (wpAny_pure ⟨Code.quiet_builtin _ (by decide +kernel), codeAny_builtin PySem.F.entry_type_call ?_⟩))
  rw [Around.under_plain (weight_type_call_type "set" [.ref l] []) rfl]
  repeat (any_goals (first | assumption | wp_step))
  refine codeAny_mono (code_set_new_1 (.ref l) (E := E) (Q₁ := fun z s1 => ∃ led : Bool, z = .ref s.heap.objs.size ∧ s1 = { s with heap := s.heap.push (newSetO led) }) fun led => ⟨led, rfl, rfl⟩) fun r s1 hr => ?_
  cases r with
  | error e => exact hr
  | ok fl => cases fl with
    | ret z =>
      obtain ⟨led, rfl, rfl⟩ := hr
      have g : (s.heap.push (newSetO led)).get? s.heap.objs.size = some (newSetO led) := Heap.get?_push_size _ rfl
      have T : Shared.TypeIs { s with heap := s.heap.push (newSetO led) } (.ref s.heap.objs.size) "set" := ⟨_, g, rfl⟩
      have i1 := PySem.F.called_set.init.lookup
      have i2 := PySem.F.called_set.init.bind (.ref s.heap.objs.size)
      repeat (any_goals (first | assumption | wp_step))
      refine codeAny_mono (codeAny_call_builtin (R := wants (fun r s2 => r = .none ∧ ∃ h' tk, s2 = { s with heap := h', toks := tk } ∧ h'.SetOf (mixKind prog w) s.heap.objs.size (hasK (addsK [] ks)) (addsK [] ks).length ∧ ∀ c o, s.heap.get? c = some o → h'.get? c = some o) E)
        PySem.F.called_set.init.plain PySem.F.entry_set_init (check_set_init_1 T (init_setX (by simpa using hh) ((begX b l items).keeps _ _ hl fun c o e => Heap.get?_push_of_some _ e) g (Nat.ne_of_gt lt) hv hlen hb fun h' tk hS kp => ?_))) fun r2 s2 hr2 => ?_
      · exact ⟨rfl, h', tk, rfl, hS, fun c o e => kp c o (Nat.ne_of_lt (Heap.lt_size e)) (Heap.get?_push_of_some _ e)⟩
      · cases r2 with
        | error e => exact hr2
        | ok f2 => cases f2 with
          | ret z2 =>
            obtain ⟨rfl, h', tk, rfl, hS, kp⟩ := hr2
            repeat (any_goals (first | assumption | wp_step))
            exact h _ _ hS kp
          | _ => exact hr2.elim
    | _ => exact hr.elim
/-- len(set(xs)) -/
def tLenSetX (K : PySem.W.Frag) (ta : TE) : TE := fun σ H Q => ta σ H fun x H1 => ∃ (b : Bool) (l : Addr) (ks : List Key), x = .ref l ∧ SqX K b H1 l (ks.map kV) ∧ ks.length < 4000 ∧ Q (.int (addsK [] ks).length) H1
theorem pe_lenSetX {X : Cx} {a : Expr} {ta : TE} {p p2 q pos : Pos} (hc : X.calm = true) (hm : X.mg "len" = none) (hm2 : X.mg "set" = none) (ha : PE X a ta) (hg : Gl X "len" := by rfl) (hg2 : Gl X "set" := by rfl)
    (na : starEach [a] X.env = (false, eval a X.env) :: starEach [] X.env := by rfl) : PE X (.Call (.Name "len" p) [.Call (.Name "set" p2) [a] [] q] [] pos) (tLenSetX X.K ta) := ⟨fun pins s σ H Q I h => by
  refine Call_ (ld_blt I hg hm boot_len (PyProof.Rows.callWith_builtin1 (PyProof.Rows.args_cons (Call_ (ld_blt I hg2 hm2 boot_set (PyProof.Rows.callWith_type1 (PyProof.Rows.args_cons (thn (ha.run pins s σ H _ I h) fun v s1 ⟨x, H1, I1, r1, q1⟩ => PyProof.Rows.args_nil ?_) na) na rfl))) rfl) rfl rfl))
  obtain ⟨b, l, ks, rfl, hq, hz, q1⟩ := q1
  cases (show v = Value.ref l from r1)
  obtain ⟨its, r, sr, _⟩ := sqx_at I1 hq
  have e : its.length = ks.length := by rw [← r.length, List.length_map]
  refine call_setX (b := b) (ks := ks) (I1.ok.hd hc) sr (fun i k hk v hv => ?_) (by simpa using e) (by unfold scanBound; omega) fun h' tk hS kp => ?_
  · obtain ⟨u, hu, ru⟩ := r.get (i := i) (x := kV k) (by simp [hk])
    rw [List.getElem?_toArray] at hv
    rw [hu] at hv
    cases hv
    exact ru
  · have I2 := I1.kept (h' := h') (t' := tk) kp
    obtain ⟨o, es, ep, t, ho, hex, hd, _, _, _, hf, hn⟩ := hS
    have l2 := addsK_length ks []
    refine PyProof.Rows.args_nil (call_len_set ho hex hd hf (by rw [hn]; simp at l2; omega) ⟨.int (addsK [] ks).length, H1, I2.tok _, ⟨_, by rw [hn]⟩, q1⟩)⟩
def keysA : List AV → Option (List Key)
  | [] => some []
  | x :: r => match keyA x, keysA r with
    | some k, some ks => some (k :: ks)
    | _, _ => none
theorem keysA_rel {C : KC} {ρ : Nat → Addr} {n : Nat} {H : Hp} : ∀ {xs : List AV} {vs : List V} {ks : List Key}, RVs C ρ n H xs vs → keysA xs = some ks → vs = ks.map kV
  | _, _, _, .nil, h => by cases h; rfl
  | x :: xs, _, ks, .cons r q, h => by
    unfold keysA at h
    split at h
    · rename_i k ks' h1 h2
      cases h
      rw [keyA_kV r h1, keysA_rel q h2]
      rfl
    · cases h
def cLenSet (c : CE) : CE := fun env => bind (c env) fun x ah => match seqOf x ah with
  | none => .no
  | some xs => match keysA xs with
    | none => .no
    | some ks => if ks.length < 4000 then .ok (.int (addsK [] ks).length) ah else .no
theorem x_lenSet {X : Cx} {E : XK} {a : Expr} {c : CE} {p p2 q pos : Pos} (hc : X.calm = true) (hm : X.mg "len" = none) (hm2 : X.mg "set" = none) (ha : PE X a (tE (kc X) E c)) (hg : Gl X "len" := by rfl) (hg2 : Gl X "set" := by rfl)
    (na : starEach [a] X.env = (false, eval a X.env) :: starEach [] X.env := by rfl) : PE X (.Call (.Name "len" p) [.Call (.Name "set" p2) [a] [] q] [] pos) (tE (kc X) E (cLenSet c)) := pe_imp (pe_lenSetX hc hm hm2 ha hg hg2 na) fun σ H Q ⟨ρ, ah, env, R, RE, q⟩ => by
  refine ⟨ρ, ah, env, R, RE, ?_⟩
  unfold cLenSet bind at q
  cases ha : c env ah with
  | no => rw [ha] at q; exact q
  | er x ah1 => rw [ha] at q; exact q
  | ok x ah1 =>
    rw [ha] at q
    intro ρ1 H1 v e1 R1 r
    replace q := Aft.pre e1 q
    dsimp only at q
    split at q
    · exact (show False from q).elim
    · rename_i xs hx
      split at q
      · exact (show False from q).elim
      · rename_i ks hk
        split at q
        · obtain ⟨p, vs, rfl, hs, rs⟩ := R1.seq r hx
          cases keysA_rel rs hk
          rcases hs with hs | hs
          · exact ⟨true, p, ks, rfl, hs, ‹_›, Aft.here R1 q (.int _)⟩
          · exact ⟨false, p, ks, rfl, hs, ‹_›, Aft.here R1 q (.int _)⟩
        · exact (show False from q).elim
end Sm

set_option Elab.async false
set_option linter.all false
set_option maxRecDepth 100000
set_option maxHeartbeats 4000000
namespace Sm
open PySem PySem.Spec PyProof.Rows L2

/-! ### sorted(xs), xs a list or a tuple, by whatever keys -/
section
variable {prog : Program} {w : PySem.World} {A : Around} {E : Value → Shared → Prop} {s : Shared}
theorem collectX {b : Bool} {l : Addr} {vs : List Value} {Q : List Value → Shared → Prop} (hl : SrX b s.heap l vs.toArray) (hz : vs.length ≤ sizeLine)
    (h : Q vs { s with heap := (s.heap.push (seqObj "list" #[] 0)).update s.heap.objs.size (Obj.mapSeq (· ++ vs.toArray)) }) : wpAny (model prog w) A (collect (.ref l)) Q E s := by
  cases b with
  | false => exact collect_list hl h hz
  | true =>
    obtain ⟨o, ho, hc, n, hd⟩ := id hl
    have g1 : (s.heap.push (seqObj "list" #[] 0)).get? l = some o := Heap.get?_push_of_some _ ho
    have g2 : (s.heap.push (seqObj "list" #[] 0)).get? s.heap.objs.size = some (seqObj "list" #[] 0) := Heap.get?_push_size _ rfl
    unfold collect
    refine wpAny_bind (wpAny_runValue (codeAny_builtin entry_proto_collect' (wpAny_bind (wpAny_newList (wpAny_pure ⟨Code.quiet_builtin _ (by decide +kernel), codeAny_builtin entry_list_iadd' ?_⟩)))))
    show wpAny _ _ (Builtin.List.listExtendWith (.ref s.heap.objs.size) (.ref l) (.ref s.heap.objs.size)) _ _ { s with heap := s.heap.push (seqObj "list" #[] 0) }
    unfold Builtin.List.listExtendWith
    refine wpAny_bind (wpAny_typeOf (T := "tuple") ⟨o, g1, hc⟩ ?_)
    rw [if_pos (by rw [show (Value.type "tuple" == Value.type "tuple") = true from rfl]; simp)]
    refine wpAny_bind (listItems_at g1 hd (wpAny_bind (listItems_at (xs := #[]) (n := 0) g2 rfl ?_)))
    rw [if_neg (by simp)]
    refine wpAny_bind (listUpdate_at (xs := #[]) (n := 0) g2 rfl (wpAny_pure ?_) (Nat.zero_le _) (by show (#[] ++ vs.toArray).size ≤ sizeLine + 1; simp only [Array.size_append, List.size_toArray, List.length_nil]; omega))
    show wpAny (model prog w) A (load s.heap.objs.size >>= _) Q E { s with heap := (s.heap.push (seqObj "list" #[] 0)).update s.heap.objs.size (Obj.mapSeq (· ++ vs.toArray)) }
    refine wpAny_bind (wpAny_load (get?_update_seq g2 _) ?_)
    show wpAny _ _ (pure ((#[] : Array Value) ++ vs.toArray).toList) Q E _
    rw [show ((#[] : Array Value) ++ vs.toArray).toList = vs by simp]
    exact wpAny_pure h
theorem sortedGX {b : Bool} {κ : KeyKind} {kd : SortKind} {l : Addr} {vs : List Value} {Q : Value → Shared → Prop} (hl : SrX b s.heap l vs.toArray) (h0 : KeysOf κ (pairsOf vs)) (hO : ∀ s2 : Shared, G.KeepsTups s.heap s2.heap → G.LtAt prog w s2 κ kd)
    (hkk : 2 ≤ vs.length → ∀ (A : Around) (E : Value → Shared → Prop) (s2 : Shared) {Q : SortKind → Shared → Prop}, G.KeepsTups s.heap s2.heap → Q kd s2 → wpAny (model prog w) A (keyKind' vs.toArray) Q E s2) (hz : vs.length ≤ sizeLine)
    (h : ∀ st : SortSt, (arrOf st).Perm (pairsOf vs) → SortedToK κ (arrOf st) (pairsOf vs).size → Q (.ref (s.heap.objs.size + 1)) { s with heap := sortedAll s.heap vs ((arrOf st).map (·.2)) }) :
    wpAny (model prog w) A (call (.builtin "sorted") [.ref l]) Q E s := by
  refine Calls.call_function_entry kind_sorted plain_sorted entry_sorted (args_sorted1 _) ?_
  unfold Builtin.«sorted»
  refine wpAny_bind (m := checkCount "sorted" 1 1 _) (wpAny_pure (wpAny_bind (collectX hl hz (wpAny_bind (wpAny_newList ?_ hz)))))
  have n0 : ((s.heap.push (seqObj "list" #[] 0)).update s.heap.objs.size (Obj.mapSeq (· ++ vs.toArray))).objs.size = s.heap.objs.size + 1 := by rw [Heap.size_update, size_push']
  have g0 : (s.heap.push (seqObj "list" #[] 0)).get? s.heap.objs.size = some (seqObj "list" #[] 0) := Heap.get?_push_size _ rfl
  have g1 : (((s.heap.push (seqObj "list" #[] 0)).update s.heap.objs.size (Obj.mapSeq (· ++ vs.toArray))).push (seqObj "list" vs.toArray 0)).get? (s.heap.objs.size + 1) = some (seqObj "list" vs.toArray 0) := by
    rw [← n0]
    exact Heap.get?_push_size _ rfl
  have k0 := ((G.KeepsTups.push s.heap _).trans (G.KeepsTups.update (Obj.mapSeq (· ++ vs.toArray)) g0 G.not_tuple_list)).trans (G.KeepsTups.push _ (seqObj "list" vs.toArray 0))
  have k6 := k0.trans (G.keeps_sort6 (vs := vs) g1)
  show wpAny _ _ _ _ _ { s with heap := ((s.heap.push (seqObj "list" #[] 0)).update s.heap.objs.size (Obj.mapSeq (· ++ vs.toArray))).push (seqObj "list" vs.toArray 0) }
  rw [n0]
  exact wpAny_bind (wpAny_holding (wpAny_call_entry slot_list_sort ⟨_, g1, rfl⟩ entry_list_sort (G.list_sort_treeG (κ := κ) (kd := kd) g1 h0 (hO _ k6) (fun h2 _ q => hkk h2 _ _ _ k6 q) hz fun st a1 a2 _ => ⟨_, rfl, wpAny_pure ⟨_, rfl, h st a1 a2⟩⟩) (args_list_sort _)))
theorem strs_ltAt : G.LtAt prog w s strKind oneType' := by
  intro A E x y a b Q hx hy q
  rw [keyLt'_oneType]
  exact strKind_oneLt prog w A E s x y a b hx hy q
end
/-! permutations of an image -/
theorem perm_lift {α β : Type} (f : α → β) : ∀ {m : List α} {l : List β}, l.Perm (m.map f) → ∃ m' : List α, m'.Perm m ∧ m'.map f = l
  | [], l, h => by
    cases List.perm_nil.mp h
    exact ⟨[], .nil, rfl⟩
  | a :: m, l, h => by
    have hm : f a ∈ l := h.mem_iff.mpr (by simp)
    obtain ⟨l1, l2, rfl⟩ := List.append_of_mem hm
    have h2 : (l1 ++ l2).Perm (m.map f) := (List.perm_middle.symm.trans h).cons_inv
    obtain ⟨m', p, e⟩ := perm_lift f h2
    obtain ⟨m1, m2, rfl, e1, e2⟩ := List.map_eq_append_iff.mp e
    refine ⟨m1 ++ a :: m2, List.perm_middle.trans (p.cons a), ?_⟩
    rw [List.map_append, List.map_cons, e1, e2]
theorem zip_self_map {α β : Type} : ∀ l : List (α × β), (l.map (·.1)).zip (l.map (·.1)) = l.map fun p => (p.1, p.1)
  | [] => rfl
  | p :: r => congrArg ((p.1, p.1) :: ·) (zip_self_map r)
/-- what is sorted, with its keys -/
theorem sorted_pairs {κ : KeyKind} {γ : Type} {kf : γ → κ.α} {vs : List Value} {ps : List (Value × γ)} {xs : Array Keyed} (e : ps.map (·.1) = vs) (hk : ∀ p ∈ ps, κ.keyOf p.1 = some (kf p.2)) (hp : xs.Perm (pairsOf vs)) (hs : SortedToK κ xs (pairsOf vs).size) :
    ∃ qs : List (Value × γ), qs.Perm ps ∧ qs.map (·.1) = (xs.map (·.2)).toList ∧ qs.Pairwise fun p q => κ.blt (kf q.2) (kf p.2) = false := by
  have hpl : xs.toList.Perm (pairsOf vs).toList := hp.toList
  rw [pairsOf_toList] at hpl
  have e2 : vs.zip vs = ps.map fun p => (p.1, p.1) := by
    rw [← e]
    exact zip_self_map ps
  rw [e2] at hpl
  obtain ⟨qs, p, eq⟩ := perm_lift (fun p : Value × γ => ((p.1, p.1) : Keyed)) hpl
  refine ⟨qs, p, ?_, ?_⟩
  · rw [Array.toList_map, ← eq, List.map_map]
    rfl
  · have hsz : xs.size = (pairsOf vs).size := hp.size_eq
    rw [List.pairwise_iff_getElem]
    intro i j hi hj hij
    have hl : qs.length = xs.size := by rw [← Array.length_toList, ← eq, List.length_map]
    have kk : ∀ (i : Nat) (h : i < qs.length), KK κ xs i = kf qs[i].2 := fun i h => by
      have e3 : xs[i]? = some (qs[i].1, qs[i].1) := by
        rw [← Array.getElem?_toList, ← eq, List.getElem?_map, List.getElem?_eq_getElem h]
        rfl
      have m : qs[i] ∈ ps := p.mem_iff.mp (List.getElem_mem h)
      simp only [KK, e3, hk _ m, Option.getD_some]
    have z := hs i j (by omega) (by omega)
    rw [kk i hi, kk j hj] at z
    exact z
/-! keys of ints and texts, one behind the other -/
def ltK : Key → Key → Bool
  | .inl a, .inl b => decide (a < b)
  | .inl _, .inr _ => true
  | .inr _, .inl _ => false
  | .inr a, .inr b => ltStr a b
def ltKs : List Key → List Key → Bool
  | [], [] => false
  | [], _ :: _ => true
  | _ :: _, [] => false
  | x :: r, y :: t => ltK x y || (!ltK y x && ltKs r t)
def itemK : Key → Int ⊕ List Nat
  | .inl i => .inl i
  | .inr s => .inr s.cps.toList
theorem ltK_eq (x y : Key) : itemLt (itemK x) (itemK y) = ltK x y := by
  cases x <;> cases y
  · rfl
  · rfl
  · rfl
  · show decide (_ < _) = ltCps _ _
    rw [ltCps_eq]
theorem ltKs_eq : ∀ l m : List Key, lexLt itemOrd (l.map itemK) (m.map itemK) = ltKs l m
  | [], [] => rfl
  | [], _ :: _ => rfl
  | _ :: _, [] => rfl
  | x :: r, y :: t => by
    show (itemLt (itemK x) (itemK y) || (!itemLt (itemK y) (itemK x) && lexLt itemOrd (r.map itemK) (t.map itemK))) = _
    rw [ltK_eq, ltK_eq, ltKs_eq r t]
    rfl
theorem itemK_inj {x y : Key} (h : itemK x = itemK y) : x = y := by
  cases x <;> cases y
  · cases h; rfl
  · cases h
  · cases h
  · rename_i a b
    have e : a.cps.toList = b.cps.toList := Sum.inr.inj h
    obtain ⟨a⟩ := a
    obtain ⟨b⟩ := b
    exact congrArg (fun z => Sum.inr (Str.mk z)) (Array.toList_inj.mp e)
theorem ltKs_asym (a b : List Key) (h : ltKs a b = true) : ltKs b a = false := by
  rw [← ltKs_eq] at h ⊢
  cases e : lexLt itemOrd (b.map itemK) (a.map itemK) with
  | false => rfl
  | true =>
    have z := (listOrd itemOrd).trans _ _ _ h e
    rw [(listOrd itemOrd).irrefl] at z
    cases z
theorem ltKs_trans (a b c : List Key) (h1 : ltKs b a = false) (h2 : ltKs c b = false) : ltKs c a = false := by
  rw [← ltKs_eq] at h1 h2 ⊢
  cases e : lexLt itemOrd (c.map itemK) (a.map itemK) with
  | false => rfl
  | true =>
    rcases (listOrd itemOrd).negTrans _ (b.map itemK) _ e with z | z
    · exact (Bool.false_ne_true (h2.symm.trans z)).elim
    · exact (Bool.false_ne_true (h1.symm.trans z)).elim
theorem ltKs_anti {a b : List Key} (h1 : ltKs b a = false) (h2 : ltKs a b = false) : a = b := by
  rw [← ltKs_eq] at h1 h2
  have e := (listOrd itemOrd).total _ _ h2 h1
  exact List.map_inj_right (fun _ _ => itemK_inj) |>.mp e
/-! sorted of tuples of ints and texts, of texts -/
def isTxt : Key → Bool
  | .inl _ => false
  | .inr _ => true
/-- a tuple of ints and texts, texts where sh says so -/
def TupK (K : PySem.W.Frag) (H : Hp) (sh : Nat → Bool) (x : V) (l : List Key) : Prop := ∃ p, x = .ref p ∧ SqT K H p (l.map kV) ∧ l ≠ [] ∧ ∀ (i : Nat) (k : Key), l[i]? = some k → isTxt k = sh i
def rSortX (K : PySem.W.Frag) : List V → Hp → VK → Prop := fun vs H Q => ∃ (γ : Type) (kf : γ → List Key) (b : Bool) (a : Addr) (ps : List (V × γ)), vs = [.ref a] ∧ SqX K b H a (ps.map (·.1)) ∧
  ((∃ sh, ∀ p ∈ ps, TupK K H sh p.1 (kf p.2)) ∨ ∀ p ∈ ps, ∃ s, p.1 = .str s ∧ kf p.2 = [.inr s]) ∧
  ∀ qs : List (V × γ), qs.Perm ps → qs.Pairwise (fun p q => ltKs (kf q.2) (kf p.2) = false) → ∀ p, H p = none → Q (.ref p) (upd H p (.lst (qs.map (·.1))))
theorem tupItems_of {sh : Nat → Bool} : ∀ {l : List Key} {us : List Value} {i : Nat}, Vals (l.map kV) us → (∀ (j : Nat) (k : Key), l[j]? = some k → isTxt k = sh (i + j)) → tupItems sh i us = some (l.map itemK)
  | [], _, _, .nil, _ => rfl
  | .inl n :: r, _, i, .cons h t, hs => by
    obtain ⟨u, rfl⟩ := (show ∃ t, _ = Value.int n t from h)
    have h0 := hs 0 (.inl n) rfl
    have ih := tupItems_of (i := i + 1) t fun j k hk => by rw [show i + 1 + j = i + (j + 1) by omega]; exact hs (j + 1) k hk
    rw [Nat.add_zero] at h0
    simp only [tupItems, ← h0, isTxt, Bool.false_eq_true, if_false, ih, Option.map_some]
    rfl
  | .inr x :: r, _, i, .cons h t, hs => by
    obtain ⟨u, rfl⟩ := (show ∃ t, _ = Value.str x t from h)
    have h0 := hs 0 (.inr x) rfl
    have ih := tupItems_of (i := i + 1) t fun j k hk => by rw [show i + 1 + j = i + (j + 1) by omega]; exact hs (j + 1) k hk
    rw [Nat.add_zero] at h0
    simp only [tupItems, ← h0, isTxt, if_true, ih, Option.map_some]
    rfl
theorem vals_zip {γ : Type} : ∀ {ps : List (V × γ)} {us : List Value}, Vals (ps.map (·.1)) us → ∃ ts : List (Value × (V × γ)), ts.map (·.1) = us ∧ ts.map (·.2) = ps ∧ ∀ t ∈ ts, RelV t.2.1 t.1
  | [], _, .nil => ⟨[], rfl, rfl, fun _ h => by cases h⟩
  | p :: r, u :: us, .cons h t => by
    obtain ⟨ts, e1, e2, e3⟩ := vals_zip t
    refine ⟨(u, p) :: ts, by rw [List.map_cons, e1], by rw [List.map_cons, e2], fun t ht => ?_⟩
    rcases List.mem_cons.mp ht with rfl | ht
    · exact h
    · exact e3 t ht
theorem vals_unzip {γ : Type} : ∀ {qs : List (Value × (V × γ))}, (∀ t ∈ qs, RelV t.2.1 t.1) → Vals ((qs.map (·.2)).map (·.1)) (qs.map (·.1))
  | [], _ => .nil
  | q :: r, h => .cons (h q List.mem_cons_self) (vals_unzip fun t ht => h t (List.mem_cons_of_mem _ ht))
theorem cr_sortX {X : Cx} : CallR X (.builtin "sorted") (rSortX X.K) := by
  intro pins s σ H xs us Q I r ⟨γ, kf, b, a, ps, ex, hs, hk, q⟩
  subst ex
  obtain ⟨u, rfl, ru⟩ := vals1 r
  cases (show u = Value.ref a from ru)
  obtain ⟨its, rv, sr, _⟩ := sqx_at I hs
  obtain ⟨ts, e1, e2, e3⟩ := vals_zip rv
  have hz : its.length ≤ sizeLine := by
    cases b
    · obtain ⟨_, r', _, z⟩ := I.list hs
      rw [← rv.length]; exact z
    · obtain ⟨_, r', _, z⟩ := I.tuple hs
      rw [← rv.length]; exact z
  have fin : ∀ (st : SortSt) (qs : List (Value × (V × γ))), qs.Perm ts → qs.map (·.1) = ((arrOf st).map (·.2)).toList → qs.Pairwise (fun p q => ltKs (kf q.2.2) (kf p.2.2) = false) → EP X pins σ Q (.ref (s.heap.objs.size + 1)) { s with heap := sortedAll s.heap its ((arrOf st).map (·.2)) } := fun st qs hp em hw => by
    obtain ⟨ep, he⟩ := sortedAll_at s.heap its ((arrOf st).map (·.2))
    have rq : Vals ((qs.map (·.2)).map (·.1)) (qs.map (·.1)) := vals_unzip fun t ht => e3 t (hp.mem_iff.mp ht)
    have hl : ((qs.map (·.2)).map (·.1)).length ≤ sizeLine := by
      have : its.length = ts.length := by rw [← e1, List.length_map]
      have := hp.length_eq
      simp only [List.length_map]
      omega
    refine ⟨.ref _, upd H (s.heap.objs.size + 1) (.lst ((qs.map (·.2)).map (·.1))), I.laid (t' := s.toks) (fun _ _ => sortedAll_old) (Nat.le_succ _) ⟨hl, qs.map (·.1), ep, rq, by rw [em]; exact he⟩, rfl, q (qs.map (·.2)) ?_ (List.pairwise_map.mpr hw) _ (I.hok.fresh (Nat.le_succ _))⟩
    have := hp.map (·.2)
    rwa [e2] at this
  have mem2 : ∀ t ∈ ts, t.2 ∈ ps := fun t ht => by rw [← e2]; exact List.mem_map.mpr ⟨t, ht, rfl⟩
  rcases hk with ⟨sh, hk⟩ | hk
  · have key : ∀ t ∈ ts, G.tupKeyC s.heap sh t.1 = some ((kf t.2.2).map itemK) := fun t ht => by
      obtain ⟨p, ep, hp, _, hi⟩ := hk _ (mem2 t ht)
      have rt := e3 t ht
      rw [ep] at rt
      have et : t.1 = .ref p := rt
      obtain ⟨us, r2, ⟨o, ho, hc, n, hd⟩, _⟩ := I.tuple hp
      have e4 := tupItems_of (sh := sh) (i := 0) r2 fun j k hjk => by rw [Nat.zero_add]; exact hi j k hjk
      simp only [G.tupKeyC, G.isTupObj, tupKey, et, ho, hc, hd]
      simpa using e4
    have tups : ∀ l : List (Value × (V × γ)), (∀ t ∈ l, t ∈ ts) → ∃ fs, TupsOf s.heap sh (l.map (·.1)) fs := by
      intro l
      induction l with
      | nil => exact fun _ => ⟨[], .nil⟩
      | cons t l ih =>
        intro h
        obtain ⟨fs, hf⟩ := ih fun t ht => h t (List.mem_cons_of_mem _ ht)
        have ht := h t List.mem_cons_self
        obtain ⟨p, ep, hp, hne, hi⟩ := hk _ (mem2 t ht)
        have rt := e3 t ht
        rw [ep] at rt
        have et : t.1 = .ref p := rt
        obtain ⟨us, r2, ⟨o, ho, hc, n, hd⟩, _⟩ := I.tuple hp
        cases ek : kf t.2.2 with
        | nil => exact absurd ek hne
        | cons k kr =>
          rw [ek] at r2 hi
          cases us with
          | nil => cases r2
          | cons f ur =>
            cases r2 with
            | cons rf _ =>
              have i0 := hi 0 k rfl
              refine ⟨f :: fs, .cons ⟨p, o, _, n, et, ho, hc, hd, by simp, fun e => ?_, fun e => ?_⟩ hf⟩
              · cases k with
                | inl i => obtain ⟨t, rfl⟩ := (show ∃ t, f = Value.int i t from rf); exact ⟨_, _, rfl⟩
                | inr x => rw [e] at i0; cases i0
              · cases k with
                | inl i => rw [e] at i0; cases i0
                | inr x => obtain ⟨t, rfl⟩ := (show ∃ t, f = Value.str x t from rf); exact ⟨_, _, rfl⟩
    obtain ⟨fs, hf⟩ := tups ts fun _ h => h
    rw [e1] at hf
    have hlen := G.TupsOf.length hf
    refine sortedGX (b := b) (κ := G.tupKindC s.heap sh) (kd := tuples' true) sr (G.tupKeys fun v hv => ?_) (fun s2 k => G.tupC_ltAt true k) (fun h2 _ _ s2 _ k hq => tup_kind (by omega) (G.TupsOf.keep k hf) hq) hz fun st hp hs => ?_
    · rw [← e1] at hv
      obtain ⟨t, ht, rfl⟩ := List.mem_map.mp hv
      exact ⟨_, key t ht⟩
    · obtain ⟨qs, p1, p2, p3⟩ := sorted_pairs (κ := G.tupKindC s.heap sh) (kf := fun g : V × γ => (kf g.2).map itemK) e1 key hp hs
      exact fin st qs p1 p2 (p3.imp fun {p q} h => by rw [← ltKs_eq]; exact h)
  · have key : ∀ t ∈ ts, strKind.keyOf t.1 = some (match kf t.2.2 with | [.inr s] => s.cps.toList | _ => []) := fun t ht => by
      obtain ⟨x, ex, ek⟩ := hk _ (mem2 t ht)
      have rt := e3 t ht
      rw [ex] at rt
      obtain ⟨u, eu⟩ := (show ∃ t', t.1 = Value.str x t' from rt)
      rw [eu, ek]
    have txts : ∃ ss, StrsAre its ss := by
      rw [← e1]
      clear e1 e2 fin key
      have : ∀ l : List (Value × (V × γ)), (∀ t ∈ l, RelV t.2.1 t.1) → (∀ t ∈ l, t.2 ∈ ps) → ∃ ss, StrsAre (l.map (·.1)) ss := by
        intro l
        induction l with
        | nil => exact fun _ _ => ⟨[], .nil⟩
        | cons t l ih =>
          intro h1 h2
          obtain ⟨ss, hss⟩ := ih (fun t ht => h1 t (List.mem_cons_of_mem _ ht)) fun t ht => h2 t (List.mem_cons_of_mem _ ht)
          obtain ⟨x, ex, _⟩ := hk _ (h2 t List.mem_cons_self)
          have rt := h1 t List.mem_cons_self
          rw [ex] at rt
          obtain ⟨u, eu⟩ := (show ∃ t', t.1 = Value.str x t' from rt)
          rw [List.map_cons, eu]
          exact ⟨x :: ss, .cons x u hss⟩
      exact this ts e3 mem2
    obtain ⟨ss, hss⟩ := txts
    refine sortedGX (b := b) (κ := strKind) (kd := oneType') sr hss.keysOf (fun s2 _ => strs_ltAt) (fun h2 _ _ s2 _ _ hq => ?_) hz fun st hp hs => ?_
    · match its, hss, h2 with
      | v1 :: v2 :: rest, hss, _ =>
        rw [keyKind_strs hss]
        exact wpAny_pure hq
      | [], _, h2 => simp at h2
      | [_], _, h2 => simp at h2
    · obtain ⟨qs, p1, p2, p3⟩ := sorted_pairs (κ := strKind) (kf := fun g : V × γ => match kf g.2 with | [.inr s] => s.cps.toList | _ => []) e1 key hp hs
      refine fin st qs p1 p2 ((List.Pairwise.and_mem.mp p3).imp fun {p q} h => ?_)
      obtain ⟨hp', hq', h⟩ := h
      obtain ⟨x, _, ex⟩ := hk _ (mem2 p (p1.mem_iff.mp hp'))
      obtain ⟨y, _, ey⟩ := hk _ (mem2 q (p1.mem_iff.mp hq'))
      simp only [ex, ey] at h ⊢
      have h : decide (y.cps.toList < x.cps.toList) = false := h
      show (ltStr y x || (!ltStr x y && false)) = false
      rw [Bool.and_false, Bool.or_false]
      show ltCps _ _ = false
      rw [ltCps_eq]
      exact h
/-! over abstract values -/
def keyT : AV → List Key
  | .tup xs => (keysA xs).getD []
  | .str s => [.inr s]
  | _ => []
def ltA (x y : AV) : Bool := ltKs (keyT x) (keyT y)
def isTupK (sh : List Bool) : AV → Bool
  | .tup xs => match keysA xs with
    | some ks => ks.map isTxt == sh
    | none => false
  | _ => false
def isStrA : AV → Bool
  | .str _ => true
  | _ => false
def okS : List AV → Bool
  | y :: r => (!(keyT y).isEmpty && (y :: r).all (isTupK ((keyT y).map isTxt))) || (y :: r).all isStrA
  | [] => true
def sortXM : List AV → CM AV := fun xs ah => match xs with
  | [x] => match seqOf x ah with
    | some ys => if okS ys = true then .ok (.obj ah.length) (ah ++ [.lst (sortBy ltA ys)]) else sortedIM xs ah
    | none => .no
  | _ => .no
theorem zip_fst {C : KC} {ρ : Nat → Addr} {n : Nat} {H : Hp} : ∀ {xs : List AV} {vs : List V}, RVs C ρ n H xs vs → (vs.zip xs).map (·.1) = vs ∧ (vs.zip xs).map (·.2) = xs ∧ ∀ p ∈ vs.zip xs, RV C ρ n H p.2 p.1
  | _, _, .nil => ⟨rfl, rfl, fun _ h => by cases h⟩
  | x :: xs, v :: vs, .cons a r => by
    obtain ⟨h1, h2, h3⟩ := zip_fst r
    refine ⟨by rw [List.zip_cons_cons, List.map_cons, h1], by rw [List.zip_cons_cons, List.map_cons, h2], fun p hp => ?_⟩
    rw [List.zip_cons_cons] at hp
    rcases List.mem_cons.mp hp with rfl | hp
    · exact a
    · exact h3 p hp
theorem rvs_unzip {C : KC} {ρ : Nat → Addr} {n : Nat} {H : Hp} : ∀ {qs : List (V × AV)}, (∀ p ∈ qs, RV C ρ n H p.2 p.1) → RVs C ρ n H (qs.map (·.2)) (qs.map (·.1))
  | [], _ => .nil
  | p :: r, h => .cons (h p List.mem_cons_self) (rvs_unzip fun t ht => h t (List.mem_cons_of_mem _ ht))
theorem keysA_avs : ∀ {xs : List AV} {ks : List Key}, keysA xs = some ks → xs = ks.map fun k => match k with | .inl i => AV.int i | .inr s => AV.str s
  | [], _, h => by cases h; rfl
  | x :: xs, ks, h => by
    unfold keysA at h
    split at h
    · rename_i k ks' h1 h2
      cases h
      rw [keysA_avs h2]
      cases x <;> first | (cases h1; rfl) | (cases h1)
    · cases h
theorem ca_sortX {C : KC} {E : XK} : CaS C E (fun xs H Q => rSortedI C.K xs H Q ∨ rSortX C.K xs H Q) sortXM := by
  intro ρ ah H xs vs Q R rs q
  unfold sortXM at q
  split at q
  · rename_i x
    have rs0 := rs
    obtain ⟨v, rfl, rv⟩ := rs.one_inv
    split at q
    · rename_i ys hy
      split at q
      · rename_i hc
        obtain ⟨p, us, rfl, hs, ru⟩ := R.seq rv hy
        obtain ⟨z1, z2, z3⟩ := zip_fst ru
        have main : (∀ a ∈ ys, ∀ b ∈ ys, keyT a = keyT b → a = b) → ((∃ sh, ∀ p ∈ us.zip ys, TupK C.K H sh p.1 (keyT p.2)) ∨ ∀ p ∈ us.zip ys, ∃ s, p.1 = .str s ∧ keyT p.2 = [.inr s]) → rSortX C.K [.ref p] H Q := fun hin hk => by
          have hb : ∃ b, SqX C.K b H p us := by
            rcases hs with hs | hs
            · exact ⟨true, hs⟩
            · exact ⟨false, hs⟩
          obtain ⟨b, hb⟩ := hb
          refine ⟨AV, keyT, b, p, us.zip ys, rfl, by rw [z1]; exact hb, hk, fun qs hp hw d hd => ?_⟩
          have p2 : (qs.map (·.2)).Perm ys := by
            have := hp.map (·.2)
            rwa [z2] at this
          have w2 : (qs.map (·.2)).Pairwise fun a b => ltA b a = false := List.pairwise_map.mpr hw
          have e : qs.map (·.2) = sortBy ltA ys := by
            refine (p2.trans (sortBy_perm ltA ys).symm).eq_of_pairwise (le := fun a b => ltA b a = false) (fun a b ha hb h1 h2 => hin a (p2.mem_iff.mp ha) b ((sortBy_perm ltA ys).mem_iff.mp hb) (ltKs_anti h1 h2)) w2 ?_
            exact sortBy_sorted (lt := ltA) (fun a b => ltKs_asym _ _) (fun a b c => ltKs_trans _ _ _) ys
          have r2 : RVs C ρ ah.length H (sortBy ltA ys) (qs.map (·.1)) := by
            rw [← e]
            exact rvs_unzip fun t ht => z3 t (hp.mem_iff.mp ht)
          exact Aft.lst R q r2 d hd
        refine .inr ?_
        cases ys with
        | cons y ys' =>
          rcases Bool.or_eq_true_iff.mp hc with hc | hc
          · obtain ⟨hc1, hc2⟩ := He.ba hc
            have hc1 : keyT y ≠ [] := by simpa using hc1
            rw [List.all_eq_true] at hc2
            have sh : ∀ a ∈ y :: ys', ∃ xs ks, a = .tup xs ∧ keysA xs = some ks ∧ ks.map isTxt = (keyT y).map isTxt := fun a ha => by
              have z := hc2 a ha
              unfold isTupK at z
              split at z
              · split at z
                · exact ⟨_, _, rfl, ‹_›, by simpa using z⟩
                · cases z
              · cases z
            refine main (fun a ha b hb e => ?_) (.inl ⟨fun i => (((keyT y).map isTxt)[i]?).getD false, fun t ht => ?_⟩)
            · obtain ⟨xs, ks, rfl, h1, _⟩ := sh a ha
              obtain ⟨xs2, ks2, rfl, h2, _⟩ := sh b hb
              simp only [keyT, h1, h2, Option.getD_some] at e
              rw [keysA_avs h1, keysA_avs h2, e]
            · obtain ⟨xs, ks, e, h1, h2⟩ := sh t.2 (by rw [← z2]; exact List.mem_map.mpr ⟨t, ht, rfl⟩)
              have rt := z3 t ht
              rw [e] at rt
              obtain ⟨p2, ws, e2, hs2, rw2⟩ := rt.tup_inv
              have e3 : keyT t.2 = ks := by simp only [e, keyT, h1, Option.getD_some]
              refine ⟨p2, e2, by rw [e3, ← keysA_rel rw2 h1]; exact hs2, ?_, fun i k hk => ?_⟩
              · rw [e3]
                intro z
                rw [z] at h2
                exact hc1 (List.map_eq_nil_iff.mp h2.symm)
              · rw [e3] at hk
                show isTxt k = (((keyT y).map isTxt)[i]?).getD false
                rw [← h2, List.getElem?_map, hk]
                rfl
          · rw [List.all_eq_true] at hc
            have sh : ∀ a ∈ y :: ys', ∃ s, a = .str s := fun a ha => by
              have z := hc a ha
              cases a <;> first | exact ⟨_, rfl⟩ | cases z
            refine main (fun a ha b hb e => ?_) (.inr fun t ht => ?_)
            · obtain ⟨s, rfl⟩ := sh a ha
              obtain ⟨s2, rfl⟩ := sh b hb
              simp only [keyT, List.cons.injEq, and_true] at e
              cases e
              rfl
            · obtain ⟨s, e⟩ := sh t.2 (by rw [← z2]; exact List.mem_map.mpr ⟨t, ht, rfl⟩)
              have rt := z3 t ht
              rw [e] at rt
              exact ⟨s, rt.str_inv, by rw [e]; rfl⟩
        | nil =>
          cases ru
          exact main (fun a ha => by cases ha) (.inr fun t ht => by cases ht)
      · unfold sortedIM at q
        exact .inl (ca_sortedI ρ ah H _ _ Q R rs0 (by unfold sortedIM; exact q))
    · exact (show False from q).elim
  · exact (show False from q).elim
theorem cr_sortXI {X : Cx} : CallR X (.builtin "sorted") (fun xs H Q => rSortedI X.K xs H Q ∨ rSortX X.K xs H Q) := CallR.or cr_sortedI cr_sortX
end Sm

set_option Elab.async false
set_option linter.all false
set_option maxRecDepth 100000
set_option maxHeartbeats 4000000
namespace Sm
open PySem PySem.Spec PyProof.Rows L2

/-! ### dict(zip(xs, ys)), lists and tuples in any mix: zip's own tuple is held while the next is drawn -/
section
variable {prog : Program} {w : PySem.World} {A : Around} {E : Value → Shared → Prop} {s : Shared} {z TI TO T i1 i2 : Addr} {fp1 fp2 : List Addr} {n1 n2 i : Nat} {P1 P2 : Nat → Value → Prop} {St1 St2 : Nat → Heap → Prop} {f : Bool} {oT : Obj}
theorem held_item {Q : Value → Shared → Prop} (S : ZipSep2 z TI TO i1 i2 fp1 fp2) (D1 : Draws prog w A i1 fp1 n1 P1 St1) (D2 : Draws prog w A i2 fp2 n2 P2 St2)
    (hz : IsZipHeld s.heap z TI TO T f) (hT : s.heap.get? T = some oT) (hTI : IsTupOf2 s.heap TI (.ref i1) (.ref i2)) (st1 : St1 i s.heap) (st2 : St2 i s.heap) (l1 : i < n1) (l2 : i < n2)
    (q : ∀ x y h' tk, P1 i x → P2 i y → IsZipHeld h' z TI TO T true → St1 (i + 1) h' → St2 (i + 1) h' → IsTupOf2 h' s.heap.objs.size x y → (∀ c o, c ≠ z → c ≠ i1 → c ≠ i2 → s.heap.get? c = some o → h'.get? c = some o) → Q (.ref s.heap.objs.size) { s with heap := h', toks := tk }) :
    wpAny (model prog w) A (Builtin.«zip.__next__» ⟨[.ref z], []⟩) (fun fin s' => ∃ v, fin = .done (.ret v) ∧ Q v s') E s := by
  show wpAny _ _ (field (.ref z) 2 >>= _) _ _ _
  refine wpAny_bind (wpAny_field hz rfl (x := .bool false) rfl ?_)
  show wpAny _ _ (field (.ref z) 3 >>= _) _ _ _
  refine wpAny_bind (wpAny_field hz rfl (x := .ref TI) rfl (wpAny_bind (wpAny_seqItems hTI rfl ?_)))
  show wpAny _ _ (Builtin.SmallTypes.ownedTupleIsFree (.ref z) >>= _) _ _ _
  refine wpAny_bind (wpAny_tupleHeld_zip hz hT fun h1 hz1 b1 => ?_)
  simp only [Bool.false_eq_true, if_false]
  refine wpAny_bind ?_
  rw [← Array.forIn_toList]
  simp only [List.forIn_cons, List.forIn_nil]
  refine wpAny_bind (wpAny_bind (wpAny_holding ?_))
  show wpAny _ _ (Builtin.SmallTypes.nextOf (.ref i1) >>= _) _ _ _
  refine wpAny_bind (D1.item (s := { s with heap := h1 }) i _ _ l1 (D1.over st1 b1 S.zf1) fun x h2 t2 px s1 b2 => wpAny_pure (wpAny_pure ?_))
  refine wpAny_bind (wpAny_bind (wpAny_holding ?_))
  show wpAny _ _ (Builtin.SmallTypes.nextOf (.ref i2) >>= _) _ _ _
  refine wpAny_bind (D2.item (s := { s with heap := h2, toks := t2 }) i _ _ l2 (D2.over (D2.over st2 b1 S.zf2) b2 S.sep1_2) fun y h3 t3 py s2 b3 => wpAny_pure (wpAny_pure (wpAny_pure ?_)))
  show wpAny _ _ (newTuple [x, y] >>= _) _ _ _
  refine wpAny_bind (wpAny_newTuple ?_)
  have b1' : Heap.SameBut z s.heap h1 := b1
  have b2' : Heap.SameBut i1 h1 h2 := b2
  have b3' : Heap.SameBut i2 h2 h3 := b3
  have sz : h3.objs.size = s.heap.objs.size := by rw [b3'.1, b2'.1, b1'.1]
  have kp : ∀ c o, c ≠ z → c ≠ i1 → c ≠ i2 → s.heap.get? c = some o → h3.get? c = some o := fun c o c1 c2 c3 e => b3'.extBut _ _ c3 (b2'.extBut _ _ c2 (b1'.extBut _ _ c1 e))
  have hz3 : IsZipHeld h3 z TI TO T true := b3'.extBut _ _ S.zi2 (b2'.extBut _ _ S.zi1 hz1)
  have new : (h3.push { cls := .type "tuple", data := .seq #[x, y] }).get? h3.objs.size = some { cls := .type "tuple", data := .seq #[x, y] } := Heap.get?_push_size _ rfl
  refine wpAny_pure ⟨_, rfl, ?_⟩
  show Q (.ref h3.objs.size) _
  rw [sz] at new ⊢
  exact q x y _ t3 px py (Heap.get?_push_of_some _ hz3) (D1.frame _ _ _ (D1.over s1 b3' S.sep2_1) fun c _ o e => Heap.get?_push_of_some _ e) (D2.frame _ _ _ s2 fun c _ o e => Heap.get?_push_of_some _ e) new fun c o c1 c2 c3 e => Heap.get?_push_of_some _ (kp c o c1 c2 c3 e)
theorem held_end {Q : Fin → Shared → Prop} (S : ZipSep2 z TI TO i1 i2 fp1 fp2) (D1 : Draws prog w A i1 fp1 n1 P1 St1) (D2 : Draws prog w A i2 fp2 n2 P2 St2)
    (hz : IsZipHeld s.heap z TI TO T f) (hT : s.heap.get? T = some oT) (hTI : IsTupOf2 s.heap TI (.ref i1) (.ref i2)) (st1 : St1 i s.heap) (st2 : St2 i s.heap) (l1 : i ≤ n1) (l2 : i ≤ n2) (he : i = n1 ∨ i = n2)
    (q : ∀ h' tk e, (∀ c o, c ≠ z → c ≠ i1 → c ≠ i2 → s.heap.get? c = some o → h'.get? c = some o) → (∃ o, h'.get? e = some o ∧ o.cls = .type "StopIteration") → E (.ref e) { s with heap := h', toks := tk }) :
    wpAny (model prog w) A (Builtin.«zip.__next__» ⟨[.ref z], []⟩) Q E s := by
  show wpAny _ _ (field (.ref z) 2 >>= _) _ _ _
  refine wpAny_bind (wpAny_field hz rfl (x := .bool false) rfl ?_)
  show wpAny _ _ (field (.ref z) 3 >>= _) _ _ _
  refine wpAny_bind (wpAny_field hz rfl (x := .ref TI) rfl (wpAny_bind (wpAny_seqItems hTI rfl ?_)))
  show wpAny _ _ (Builtin.SmallTypes.ownedTupleIsFree (.ref z) >>= _) _ _ _
  refine wpAny_bind (wpAny_tupleHeld_zip hz hT fun h1 hz1 b1 => ?_)
  have b1' : Heap.SameBut z s.heap h1 := b1
  simp only [Bool.false_eq_true, if_false]
  refine wpAny_bind ?_
  rw [← Array.forIn_toList]
  simp only [List.forIn_cons, List.forIn_nil]
  refine wpAny_bind (wpAny_bind (wpAny_holding ?_))
  show wpAny _ _ (Builtin.SmallTypes.nextOf (.ref i1) >>= _) _ _ _
  by_cases e1 : i = n1
  · subst e1
    refine wpAny_bind (D1.done (s := { s with heap := h1 }) _ _ (D1.over st1 b1 S.zf1) fun h2 e b2 he => ?_)
    exact q h2 _ e (fun c o c1 c2 _ x => b2 _ _ c2 (b1'.extBut _ _ c1 x)) he
  · have e2 : i = n2 := he.resolve_left e1
    subst e2
    refine wpAny_bind (D1.item (s := { s with heap := h1 }) i _ _ (by omega) (D1.over st1 b1 S.zf1) fun x h2 t2 px s1 b2 => wpAny_pure (wpAny_pure ?_))
    have b2' : Heap.SameBut i1 h1 h2 := b2
    refine wpAny_bind (wpAny_bind (wpAny_holding ?_))
    show wpAny _ _ (Builtin.SmallTypes.nextOf (.ref i2) >>= _) _ _ _
    refine wpAny_bind (D2.done (s := { s with heap := h2, toks := t2 }) _ _ (D2.over (D2.over st2 b1 S.zf2) b2 S.sep1_2) fun h3 e b3 he => ?_)
    exact q h3 _ e (fun c o c1 c2 c3 x => b3 _ _ c3 (b2'.extBut _ _ c2 (b1'.extBut _ _ c1 x))) he
theorem next_held_item {Q : Option Value → Shared → Prop} (S : ZipSep2 z TI TO i1 i2 fp1 fp2) (D1 : Draws prog w A.in1 i1 fp1 n1 P1 St1) (D2 : Draws prog w A.in1 i2 fp2 n2 P2 St2)
    (hz : IsZipHeld s.heap z TI TO T f) (hT : s.heap.get? T = some oT) (hTI : IsTupOf2 s.heap TI (.ref i1) (.ref i2)) (st1 : St1 i s.heap) (st2 : St2 i s.heap) (l1 : i < n1) (l2 : i < n2)
    (q : ∀ x y h' tk, P1 i x → P2 i y → IsZipHeld h' z TI TO T true → St1 (i + 1) h' → St2 (i + 1) h' → IsTupOf2 h' s.heap.objs.size x y → (∀ c o, c ≠ z → c ≠ i1 → c ≠ i2 → s.heap.get? c = some o → h'.get? c = some o) → Q (some (.ref s.heap.objs.size)) { s with heap := h', toks := tk }) :
    wpAny (model prog w) A (pyNext (.ref z)) Q E s := by
  have ty : s.TypeIs (.ref z) "zip" := ⟨_, hz, rfl⟩
  unfold pyNext
  exact wpAny_bind (wpAny_attempt (wpAny_callSpecial?_slot (name := Str.ofString "__next__") ty F.slot_zip_next (wpAny_call_entry F.slot_zip_next ty F.entry_zip_next (held_item S D1 D2 hz hT hTI st1 st2 l1 l2 fun x y h' tk a1 a2 a3 a4 a5 a6 a7 => wpAny_pure (q x y h' tk a1 a2 a3 a4 a5 a6 a7)) (F.args_zip_next_1 _))))
theorem next_held_end {Q : Option Value → Shared → Prop} (S : ZipSep2 z TI TO i1 i2 fp1 fp2) (D1 : Draws prog w A.in1 i1 fp1 n1 P1 St1) (D2 : Draws prog w A.in1 i2 fp2 n2 P2 St2)
    (hz : IsZipHeld s.heap z TI TO T f) (hT : s.heap.get? T = some oT) (hTI : IsTupOf2 s.heap TI (.ref i1) (.ref i2)) (st1 : St1 i s.heap) (st2 : St2 i s.heap) (l1 : i ≤ n1) (l2 : i ≤ n2) (he : i = n1 ∨ i = n2)
    (q : ∀ h' tk, (∀ c o, c ≠ z → c ≠ i1 → c ≠ i2 → s.heap.get? c = some o → h'.get? c = some o) → Q none { s with heap := h', toks := tk }) : wpAny (model prog w) A (pyNext (.ref z)) Q E s := by
  have ty : s.TypeIs (.ref z) "zip" := ⟨_, hz, rfl⟩
  unfold pyNext
  refine wpAny_bind (wpAny_attempt (wpAny_callSpecial?_slot (name := Str.ofString "__next__") ty F.slot_zip_next (wpAny_call_entry F.slot_zip_next ty F.entry_zip_next (held_end S D1 D2 hz hT hTI st1 st2 l1 l2 he fun h' tk e hk he => ?_) (F.args_zip_next_1 _))))
  obtain ⟨o, ho, hc⟩ := he
  exact wpAny_bind (wpAny_isInstance (T := "StopIteration") (b := true) ⟨o, ho, hc⟩ isSubtype_stop (wpAny_pure (q _ _ hk)))
end
theorem zipArgX {prog : Program} {w : PySem.World} (p q : Bool) {z TI TO i1 i2 a b : Addr} (D : ZApart z TI TO i1 i2 a b) (xs ys : Array Value) :
    PairArg prog w "zip" z [z, TI, TO, i1, i2, a, b] [z, TO, i1, i2] (min xs.size ys.size) (fun i k v => xs[i]? = some k ∧ ys[i]? = some v)
      (fun h => IsZip h z TI TO .none ∧ IsTupOf2 h TI (.ref i1) (.ref i2) ∧ (∃ x y, IsTupOf2 h TO x y) ∧ (ItX p h i1 a 0 ∧ SrX p h a xs) ∧ ItX q h i2 b 0 ∧ SrX q h b ys) where
  type := fun s ok => ⟨_, ok.1, rfl⟩
  notDict := by decide
  keep := fun h h' ok hk => by
    obtain ⟨hz, hI, ⟨x, y, hO⟩, ⟨t1, s1⟩, t2, s2⟩ := ok
    exact ⟨hk _ _ hz, hk _ _ hI, ⟨x, y, hk _ _ hO⟩, ⟨t1.at fun o e => hk _ o e, (begX p a xs).keeps _ _ s1 hk⟩, t2.at fun o e => hk _ o e, (begX q b ys).keeps _ _ s2 hk⟩
  there := fun h ok c hc => by
    obtain ⟨hz, hI, ⟨x, y, hO⟩, ⟨t1, s1⟩, t2, s2⟩ := ok
    obtain ⟨o1, e1, _⟩ := t1.obj
    obtain ⟨o2, e2, _⟩ := t2.obj
    obtain ⟨o3, _, e3, _⟩ := srx_obj s1
    obtain ⟨o4, _, e4, _⟩ := srx_obj s2
    simp only [List.mem_cons, List.not_mem_nil, or_false] at hc
    rcases hc with rfl | rfl | rfl | rfl | rfl | rfl | rfl
    · exact ⟨_, hz⟩
    · exact ⟨_, hI⟩
    · exact ⟨_, hO⟩
    · exact ⟨_, e1⟩
    · exact ⟨_, e2⟩
    · exact ⟨_, e3⟩
    · exact ⟨_, e4⟩
  sub := fun c hc => by
    simp only [List.mem_cons, List.not_mem_nil, or_false] at hc ⊢
    rcases hc with rfl | rfl | rfl | rfl <;> simp
  noKeys := fun A s Q E hA ok h => getAttrOr_miss_zip ok.1 rfl rfl rfl zip_no_keys (by decide +kernel) hA h
  iter := fun A s d Q E hA ok hd hdf h => by
    obtain ⟨hz, hI, ⟨x, y, hO⟩, c1, c2⟩ := ok
    simp only [List.mem_cons, List.not_mem_nil, or_false, not_or] at hdf
    obtain ⟨dz, dI, dO, d1, d2, da, db⟩ := hdf
    have F1 : ∀ {i : Nat} {h₁ h₂ : Heap}, (∀ c o, c ≠ d → h₁.get? c = some o → h₂.get? c = some o) → ItX p h₁ i1 a i ∧ SrX p h₁ a xs → ItX p h₂ i1 a i ∧ SrX p h₂ a xs := fun {i h₁ h₂} k c => (drX (prog := prog) (w := w) (A := A.in1) p (by simpa using hA) D.a1 xs).frame _ _ _ c fun e he o ho => by
      refine k e o ?_ ho
      simp only [List.mem_cons, List.not_mem_nil, or_false] at he
      rcases he with rfl | rfl
      · exact Ne.symm d1
      · exact Ne.symm da
    have F2 : ∀ {i : Nat} {h₁ h₂ : Heap}, (∀ c o, c ≠ d → h₁.get? c = some o → h₂.get? c = some o) → ItX q h₁ i2 b i ∧ SrX q h₁ b ys → ItX q h₂ i2 b i ∧ SrX q h₂ b ys := fun {i h₁ h₂} k c => (drX (prog := prog) (w := w) (A := A.in1) q (by simpa using hA) D.b2 ys).frame _ _ _ c fun e he o ho => by
      refine k e o ?_ ho
      simp only [List.mem_cons, List.not_mem_nil, or_false] at he
      rcases he with rfl | rfl
      · exact Ne.symm d2
      · exact Ne.symm db
    refine wpAny_pyIter_zip hz (h z [z, TO, i1, i2] (fun i h => IsTupOf2 h TI (.ref i1) (.ref i2) ∧ (ItX p h i1 a i ∧ SrX p h a xs) ∧ (ItX q h i2 b i ∧ SrX q h b ys) ∧
      ((IsZip h z TI TO .none ∧ ∃ x y, IsTupOf2 h TO x y) ∨ ∃ T f oT, IsZipHeld h z TI TO T f ∧ h.get? T = some oT ∧ T ≠ z ∧ T ≠ i1 ∧ T ≠ i2 ∧ T ≠ d)) s.heap s.toks
      ⟨fun hm => ?_, fun i h₁ h₂ st hk => ?_, fun i s₁ Q₁ E₁ hi st hds hQ => ?_, fun s₁ Q₁ E₁ st hQ => ?_⟩ ⟨hI, c1, c2, .inl ⟨hz, x, y, hO⟩⟩ (fun _ _ e => e) fun c hc => .inl hc)
    · simp only [List.mem_cons, List.not_mem_nil, or_false] at hm
      rcases hm with e | e | e | e
      · exact dz e
      · exact dO e
      · exact d1 e
      · exact d2 e
    · obtain ⟨hI, c1, c2, hz⟩ := st
      refine ⟨hk _ _ (Ne.symm dI) hI, F1 hk c1, F2 hk c2, ?_⟩
      rcases hz with ⟨hz, x, y, hO⟩ | ⟨T, f, oT, hz, hT, r1, r2, r3, r4⟩
      · exact .inl ⟨hk _ _ (Ne.symm dz) hz, x, y, hk _ _ (Ne.symm dO) hO⟩
      · exact .inr ⟨T, f, oT, hk _ _ (Ne.symm dz) hz, hk _ _ r4 hT, r1, r2, r3, r4⟩
    · obtain ⟨hI, c1, c2, hz⟩ := st
      have lx : i < xs.size := Nat.lt_of_lt_of_le hi (Nat.min_le_left ..)
      have ly : i < ys.size := Nat.lt_of_lt_of_le hi (Nat.min_le_right ..)
      have lt : ∀ {c o}, s₁.heap.get? c = some o → s₁.heap.objs.size ≠ c := fun e => Nat.ne_of_gt (Heap.lt_size e)
      have n1 : s₁.heap.objs.size ≠ i1 := let ⟨_, e, _⟩ := c1.1.obj; lt e
      have n2 : s₁.heap.objs.size ≠ i2 := let ⟨_, e, _⟩ := c2.1.obj; lt e
      have out : ∀ {h' : Heap}, (∀ c o, c ≠ z → c ≠ TO → c ≠ i1 → c ≠ i2 → s₁.heap.get? c = some o → h'.get? c = some o) → ∀ c o, c ∉ [z, TO, i1, i2] → s₁.heap.get? c = some o → h'.get? c = some o := fun k c o hc e => by
        simp only [List.mem_cons, List.not_mem_nil, or_false, not_or] at hc
        exact k c o hc.1 hc.2.1 hc.2.2.1 hc.2.2.2 e
      rcases hz with ⟨hz, x, y, hO⟩ | ⟨T, f, oT, hz, hT, r1, r2, r3, r4⟩
      · refine wpAny_pyNext_zipD2_item D.S (drX p (A := A.in1) (by simpa using hA) D.a1 xs) (drX q (A := A.in1) (by simpa using hA) D.b2 ys) hz hI hO c1 c2 lx ly fun x1 x2 h' tk e1 e2 z' O' st1 st2 T' sz k => ?_
        exact hQ s₁.heap.objs.size _ _ h' tk ⟨e1, e2⟩ (.inl ⟨_, T', rfl, _, rfl⟩) ⟨k _ _ D.S.TIz D.S.TITO D.S.TIi1 D.S.TIi2 hI, st1, st2, .inr ⟨_, false, _, z', T', lt hz, n1, n2, Nat.ne_of_gt hds⟩⟩ (out k)
      · refine next_held_item D.S (drX p (A := A.in1) (by simpa using hA) D.a1 xs) (drX q (A := A.in1) (by simpa using hA) D.b2 ys) hz hT hI c1 c2 lx ly fun x1 x2 h' tk e1 e2 z' st1 st2 T' k => ?_
        exact hQ s₁.heap.objs.size _ _ h' tk ⟨e1, e2⟩ (.inl ⟨_, T', rfl, _, rfl⟩) ⟨k _ _ D.S.TIz D.S.TIi1 D.S.TIi2 hI, st1, st2, .inr ⟨T, true, oT, z', k _ _ r1 r2 r3 hT, r1, r2, r3, r4⟩⟩ (out fun c o h1 _ h3 h4 e => k c o h1 h3 h4 e)
    · obtain ⟨hI, c1, c2, hz⟩ := st
      have l1 : min xs.size ys.size ≤ xs.size := Nat.min_le_left ..
      have l2 : min xs.size ys.size ≤ ys.size := Nat.min_le_right ..
      have out : ∀ {h' : Heap}, (∀ c o, c ≠ z → c ≠ TO → c ≠ i1 → c ≠ i2 → s₁.heap.get? c = some o → h'.get? c = some o) → ∀ c o, c ∉ [z, TO, i1, i2] → s₁.heap.get? c = some o → h'.get? c = some o := fun k c o hc e => by
        simp only [List.mem_cons, List.not_mem_nil, or_false, not_or] at hc
        exact k c o hc.1 hc.2.1 hc.2.2.1 hc.2.2.2 e
      rcases hz with ⟨hz, x, y, hO⟩ | ⟨T, f, oT, hz, hT, r1, r2, r3, r4⟩
      · exact wpAny_pyNext_zipD2_end D.S (drX p (A := A.in1) (by simpa using hA) D.a1 xs) (drX q (A := A.in1) (by simpa using hA) D.b2 ys) hz hI hO c1 c2 l1 l2 (by omega) fun h' tk k => hQ h' tk (out k)
      · exact next_held_end D.S (drX p (A := A.in1) (by simpa using hA) D.a1 xs) (drX q (A := A.in1) (by simpa using hA) D.b2 ys) hz hT hI c1 c2 l1 l2 (by omega) fun h' tk k => hQ h' tk (out fun c o h1 _ h3 h4 e => k c o h1 h3 h4 e)
/-- dict(zip(e, e2)) -/
def tDictZip (K : PySem.W.Frag) (ta : TA) : TE := fun σ H Q => ta σ H fun vs H1 => ∃ (p q : Bool) (a b : Addr) (ks : List Key) (ys : List V), vs = [.ref a, .ref b] ∧ SqX K p H1 a (ks.map kV) ∧ SqX K q H1 b ys ∧ ∀ d, H1 d = none → Q (.ref d) (upd H1 d (.dK (mergeK [] (ks.zip ys))))
theorem pe_dictZip {X : Cx} {e e2 : Expr} {ta : TA} {p p2 pos pos2 : Pos} (hc : X.calm = true) (hm : X.mg "dict" = none) (hm2 : X.mg "zip" = none) (ha : PA X [e, e2] ta) (hg : Gl X "dict" := by rfl) (hg2 : Gl X "zip" := by rfl)
    (hs : starEach [e, e2] X.env = (false, eval e X.env) :: starEach [e2] X.env := by rfl) (hpl : (backTo pos2 (starEach [e2] X.env)).any (·.1) = false := by rfl)
    (na : starEach [.Call (.Name "zip" p2) [e, e2] [] pos2] X.env = (false, eval (.Call (.Name "zip" p2) [e, e2] [] pos2) X.env) :: starEach [] X.env := by rfl) :
    PE X (.Call (.Name "dict" p) [.Call (.Name "zip" p2) [e, e2] [] pos2] [] pos) (tDictZip X.K ta) := ⟨fun pins s σ H Q I h => by
  refine Call_ (ld_blt I hg hm PyProof.Rows.boot_dict (PyProof.Rows.callWith_type1 (PyProof.Rows.args_cons (Call_ (ld_blt I hg2 hm2 PyProof.Rows.boot_zip (PyProof.Rows.callWith_type1 (thn (ha.run pos2 pins s σ H _ I h) ?_) hs hpl))) na) na rfl))
  rintro us s1 ⟨vs, H1, I1, r1, pp, qq, a, b, ks, ys, rfl, qx, qy, q⟩
  obtain ⟨u1, u2, rfl, ra, rb⟩ := vals2 r1
  cases (show u1 = Value.ref a from ra)
  cases (show u2 = Value.ref b from rb)
  obtain ⟨its, r2, s1x, la⟩ := sqx_at I1 qx
  obtain ⟨its2, r3, s2x, lb⟩ := sqx_at I1 qy
  refine zip_begins2 (begX pp a its.toArray) (begX qq b its2.toArray) s1x s2x fun h' hz hT hO h1 h2 hsz hk => PyProof.Rows.args_nil ?_
  have D := zapart_new la lb
  have I2 : Inv X pins σ H1 { s1 with heap := h' } := I1.kept (t' := s1.toks) hk
  have hn : its.length = ks.length := by rw [← r2.length, List.length_map]
  have hn2 : its2.length = ys.length := r3.length.symm
  have size1 : ks.length ≤ sizeLine := by
    cases pp
    · obtain ⟨_, _, _, z⟩ := I1.list qx
      rwa [List.length_map] at z
    · obtain ⟨_, _, _, z⟩ := I1.tuple qx
      rwa [List.length_map] at z
  have have_ : PairsHave (mixKind X.prog X.w) (min its.toArray.size its2.toArray.size) (fun i k v => its.toArray[i]? = some k ∧ its2.toArray[i]? = some v) (ks.zip its2) := by
    refine ⟨by simp [hn], fun i key v ⟨e1, e2⟩ => ?_⟩
    rw [List.getElem?_toArray] at e1 e2
    obtain ⟨hi, ei⟩ := List.getElem?_eq_some_iff.mp e1
    have hki : i < ks.length := by omega
    obtain ⟨u, hu, ru⟩ := r2.get (i := i) (x := kV ks[i]) (by simp [hki])
    rw [e1] at hu
    cases hu
    refine ⟨ks[i], ?_, kV_is ru⟩
    simp [List.getElem?_zip_eq_some, hki, e2]
  refine PySem.call_dict_pairs (knd := mixKind X.prog X.w) (s := { s1 with heap := h' }) (zipArgX pp qq D its.toArray its2.toArray) (I2.ok.hd hc) ⟨hz, hT, ⟨_, _, hO⟩, ⟨itx_new h1, (begX pp a its.toArray).keeps _ _ s1x hk⟩, itx_new h2, (begX qq b its2.toArray).keeps _ _ s2x hk⟩ have_ (by simp [hn]; omega) fun h2' tk hd' k => ?_
  have hm : (h'.objs.size == sysModules) = false := beq_eq_false_iff_ne.mpr (Nat.ne_of_gt I2.big)
  have hlen : (mergeK [] (ks.zip ys)).length ≤ sizeLine := Nat.le_trans (length_mergeK _ []) (by rw [List.length_nil, Nat.zero_add, List.length_zip]; omega)
  have rel : KV (ks.zip ys) (ks.zip its2) := by
    have go : ∀ (ks : List Key) (ys : List V) (us : List Value), Vals ys us → KV (ks.zip ys) (ks.zip us) := by
      intro ks
      induction ks with
      | nil => exact fun ys us _ => by simp only [List.zip_nil_left]; exact .nil
      | cons k kr ih =>
        intro ys us r
        cases r with
        | nil => exact .nil
        | cons h t => exact .cons ⟨rfl, h⟩ (ih _ _ t)
    exact go ks ys its2 r3
  refine ⟨.ref h'.objs.size, _, I2.turnedNew (t' := tk) (T := h'.objs.size) (ob := .dK (mergeK [] (ks.zip ys))) k (fun c hc => ?_) (Nat.le_refl _) ⟨hlen, hm, merged [] (ks.zip its2), KV.merge rel .nil, hd'⟩, rfl, q _ (I2.hok.fresh (Nat.le_refl _))⟩
  have hle : s1.heap.objs.size ≤ c := by
    simp only [List.mem_cons, List.not_mem_nil, or_false] at hc
    rcases hc with rfl | rfl | rfl | rfl <;> first | exact Nat.le_refl _ | exact Nat.le_add_right _ _
  exact I1.fpOk hle (I1.hok.fresh hle)⟩
/-- the mirror -/
def cDictZip (ca : CA) : CE := fun env => bind (ca env) fun xs ah => match xs with
  | [x, y] => match seqOf x ah, seqOf y ah with
    | some ks, some ys => match keysA ks with
      | some ks => .ok (.obj ah.length) (ah ++ [.dct (mergeKA [] (ks.zip ys))])
      | none => .no
    | _, _ => .no
  | _ => .no
theorem seqx_of {C : KC} {ρ : Nat → Addr} {H : Hp} {ah : AH} {x : AV} {v : V} {xs : List AV} (R : Rep C ρ ah H) (r : RV C ρ ah.length H x v) (h : seqOf x ah = some xs) : ∃ b p vs, v = .ref p ∧ SqX C.K b H p vs ∧ RVs C ρ ah.length H xs vs := by
  obtain ⟨p, vs, e, hs, rs⟩ := R.seq r h
  rcases hs with hs | hs
  · exact ⟨true, p, vs, e, hs, rs⟩
  · exact ⟨false, p, vs, e, hs, rs⟩
theorem kvs_zip {C : KC} {ρ : Nat → Addr} {n : Nat} {H : Hp} : ∀ (ks : List Key) {ys : List AV} {vs : List V}, RVs C ρ n H ys vs → KVs C ρ n H (ks.zip ys) (ks.zip vs)
  | [], _, _, _ => by simp only [List.zip_nil_left]; exact ⟨rfl, .nil⟩
  | _ :: _, _, _, .nil => ⟨rfl, .nil⟩
  | k :: kr, _, _, .cons a r => kvs_mk a (kvs_zip kr r)
theorem x_dictZip {X : Cx} {E : XK} {e e2 : Expr} {ca : CA} {p p2 pos pos2 : Pos} (hc : X.calm = true) (hm : X.mg "dict" = none) (hm2 : X.mg "zip" = none) (ha : PA X [e, e2] (tA (kc X) E ca)) (hg : Gl X "dict" := by rfl) (hg2 : Gl X "zip" := by rfl)
    (hs : starEach [e, e2] X.env = (false, eval e X.env) :: starEach [e2] X.env := by rfl) (hpl : (backTo pos2 (starEach [e2] X.env)).any (·.1) = false := by rfl)
    (na : starEach [.Call (.Name "zip" p2) [e, e2] [] pos2] X.env = (false, eval (.Call (.Name "zip" p2) [e, e2] [] pos2) X.env) :: starEach [] X.env := by rfl) :
    PE X (.Call (.Name "dict" p) [.Call (.Name "zip" p2) [e, e2] [] pos2] [] pos) (tE (kc X) E (cDictZip ca)) := pe_imp (pe_dictZip hc hm hm2 ha hg hg2 hs hpl na) fun σ H Q ⟨ρ, ah, env, R, RE, q⟩ => by
  refine ⟨ρ, ah, env, R, RE, ?_⟩
  unfold cDictZip bind at q
  cases ha : ca env ah with
  | no => rw [ha] at q; exact q
  | er x ah1 => rw [ha] at q; exact q
  | ok xs ah1 =>
    rw [ha] at q
    intro ρ1 H1 vs e1 R1 rs
    replace q := Aft.pre e1 q
    dsimp only at q
    split at q
    · rename_i x y
      obtain ⟨v, u, rfl, rx, ry⟩ := rs.two_inv
      split at q
      · rename_i ks ys h1 h2
        split at q
        · rename_i ks' hk
          obtain ⟨b1, p1, vs1, rfl, q1, r1⟩ := seqx_of R1 rx h1
          obtain ⟨b2, p2, vs2, rfl, q2, r2⟩ := seqx_of R1 ry h2
          cases keysA_rel r1 hk
          exact ⟨b1, b2, p1, p2, ks', vs2, rfl, q1, q2, Aft.dct R1 q (kvs_merge (kvs_zip ks' r2) ⟨rfl, .nil⟩)⟩
        · exact (show False from q).elim
      · exact (show False from q).elim
    · exact (show False from q).elim
end Sm

set_option Elab.async false
set_option linter.all false
set_option maxRecDepth 100000
set_option maxHeartbeats 4000000
namespace Sm
open PySem PySem.Spec PyProof.Rows L2

theorem ExtW.trans {ρ ρ1 ρ2 : Nat → Addr} {n n1 n2 : Nat} {H H1 H2 : Hp} (a : ExtW ρ n H ρ1 n1 H1) (b : ExtW ρ1 n1 H1 ρ2 n2 H2) : ExtW ρ n H ρ2 n2 H2 := ⟨Nat.le_trans a.le b.le, fun i h => (b.ag i (Nat.lt_of_lt_of_le h a.le)).trans (a.ag i h), fun c o h s => b.kp c o (a.kp c o h s) s⟩
theorem REnv.monoW {C : KC} {ρ ρ' : Nat → Addr} {n n' : Nat} {H H' : Hp} {env : AEnv} {σ : L2.St} (h : REnv C ρ n H env σ) (e : ExtW ρ n H ρ' n' H') : REnv C ρ' n' H' env σ := ⟨h.1, fun i x q => by
  obtain ⟨v, h1, h2⟩ := h.2 i x q
  exact ⟨v, h1, h2.monoW e⟩⟩
/-! ### comprehensions with two fors -/
/-- the list that a comprehension makes, put aside till it is whole -/
structure Asd (C : KC) (ρ1 : Nat → Addr) (n1 : Nat) (H1 : Hp) (D : Addr) (ρ : Nat → Addr) (ah : AH) (acc : List AV) (vacc : List V) (H : Hp) : Prop where
  ex : Ext ρ1 n1 H1 ρ ah.length H
  rp : Rep C ρ ah H
  at_ : H D = some (.lst vacc)
  rv : RVs C ρ ah.length H acc vacc
  nd : ∀ j, j < ah.length → ρ j ≠ D
section
variable {C : KC} {E : XK} {ρ1 ρ ρ2 : Nat → Addr} {n1 : Nat} {H1 H H2 : Hp} {D : Addr} {ah ah2 : AH} {acc : List AV} {vacc : List V} {y : AV} {v : V} {Q : VK}
theorem Asd.start (R : Rep C ρ1 ah H1) (hD : H1 D = none) : Asd C ρ1 ah.length H1 D ρ1 ah [] [] (upd H1 D (.lst [])) := by
  obtain ⟨R', e'⟩ := R.grow (H' := upd H1 D (.lst [])) fun b w hb => by rw [upd_ne (ne_of_none hb hD)]; exact hb
  refine ⟨e', R', upd_same, .nil, fun j hj z => ?_⟩
  obtain ⟨u, hu⟩ := R.there hj
  rw [z, hD] at hu
  cases hu
theorem Asd.step (a : Asd C ρ1 n1 H1 D ρ ah acc vacc H) (e : Ext ρ ah.length H ρ2 ah2.length H2) (R : Rep C ρ2 ah2 H2) : Asd C ρ1 n1 H1 D ρ2 ah2 acc vacc H2 := by
  refine ⟨a.ex.trans e, R, e.kp _ _ a.at_ (.inr a.nd), a.rv.mono e, fun j hj z => ?_⟩
  by_cases l : j < ah.length
  · rw [e.ag j l] at z
    exact a.nd j l z
  · have w := e.nw j (Nat.le_of_not_lt l) hj
    rw [z, a.at_] at w
    cases w
theorem Asd.push (a : Asd C ρ1 n1 H1 D ρ ah acc vacc H) (hD : H1 D = none) (r : RV C ρ ah.length H y v) : Asd C ρ1 n1 H1 D ρ ah (acc ++ [y]) (vacc ++ [v]) (upd H D (.lst (vacc ++ [v]))) := by
  have kf : ∀ p ob ws, H p = some (.frz ob ws) → upd H D (.lst (vacc ++ [v])) p = some (.frz ob ws) := fun p ob ws h => by
    rw [upd_ne]
    · exact h
    · rintro rfl
      rw [a.at_] at h
      cases h
  have kk : ∀ b p ws, SqB C.K H b p ws → SqB C.K (upd H D (.lst (vacc ++ [v]))) b p ws := fun b p ws h => by
    cases b with
    | true =>
      rcases h with ⟨ob, h, k⟩ | h
      · exact .inl ⟨ob, kf _ _ _ h, k⟩
      · exact .inr h
    | false =>
      rcases h with ⟨ob, h⟩ | h
      · exact .inl ⟨ob, kf _ _ _ h⟩
      · exact .inr h
  refine ⟨⟨a.ex.le, a.ex.ag, a.ex.nw, fun b o h s => ?_, fun b o h => ?_⟩, ⟨fun j o hj => ?_, a.rp.inj⟩, upd_same, ?_, a.nd⟩
  · rw [upd_ne (ne_of_none h hD)]
    exact a.ex.kp b o h s
  · rw [upd_ne (ne_of_none h hD)]
    exact a.ex.th b o h
  · have hj' := (List.getElem?_eq_some_iff.mp hj).1
    exact RO.mono2 (fun _ _ => rfl) (Nat.le_refl _) kk (upd_ne (a.nd j hj')) (a.rp.obj j o hj)
  · exact RVs.mono2 (fun _ _ => rfl) (Nat.le_refl _) kk (a.rv.append (.cons r .nil))
theorem Asd.done (a : Asd C ρ1 n1 H1 D ρ ah acc vacc H) (hD : H1 D = none) (q : Aft C E ρ1 n1 H1 (.ok (.obj ah.length) (ah ++ [.lst acc])) Q) : Q (.ref D) H := by
  have hlen : (ah ++ [AO.lst acc]).length = ah.length + 1 := by simp
  have up : ∀ {x v}, RV C ρ ah.length H x v → RV C (rput ρ ah.length D) (ah.length + 1) H x v := fun h => RV.mono2 (fun j hj => rput_lt hj) (Nat.le_succ _) (fun _ _ _ h => h) h
  refine q (rput ρ ah.length D) H _ ⟨by rw [hlen]; exact Nat.le_succ_of_le a.ex.le, fun j hj => ?_, fun j h1 h2 => ?_, a.ex.kp, a.ex.th⟩ ⟨fun j o hj => ?_, fun j k hj hk z => ?_⟩ ?_
  · rw [rput_lt (Nat.lt_of_lt_of_le hj a.ex.le)]
    exact a.ex.ag j hj
  · rw [hlen] at h2
    by_cases z : j < ah.length
    · rw [rput_lt z]
      exact a.ex.nw j h1 z
    · have : j = ah.length := by omega
      subst this
      rw [rput_same]
      exact hD
  · rw [hlen]
    by_cases z : j < ah.length
    · rw [List.getElem?_append_left z] at hj
      rw [rput_lt z]
      exact RO.mono2 (fun j hj => rput_lt hj) (Nat.le_succ _) (fun _ _ _ h => h) rfl (a.rp.obj j o hj)
    · have : j = ah.length := by
        have := (List.getElem?_eq_some_iff.mp hj).1
        rw [hlen] at this
        omega
      subst this
      rw [List.getElem?_append_right (Nat.le_refl _), Nat.sub_self] at hj
      have : AO.lst acc = o := by simpa using hj
      subst this
      rw [rput_same]
      exact ⟨vacc, a.at_, RVs.mono2 (fun j hj => rput_lt hj) (Nat.le_succ _) (fun _ _ _ h => h) a.rv⟩
  · rw [hlen] at hj hk
    by_cases zj : j < ah.length
    · rw [rput_lt zj] at z
      by_cases zk : k < ah.length
      · rw [rput_lt zk] at z
        exact a.rp.inj j k zj zk z
      · have : k = ah.length := by omega
        subst this
        rw [rput_same] at z
        exact absurd z (a.nd j zj)
    · have : j = ah.length := by omega
      subst this
      rw [rput_same] at z
      by_cases zk : k < ah.length
      · rw [rput_lt zk] at z
        exact absurd z.symm (a.nd k zk)
      · omega
  · have z : RV C (rput ρ ah.length D) (ah ++ [AO.lst acc]).length H (.obj ah.length) (.ref (rput ρ ah.length D ah.length)) := .obj (by rw [hlen]; exact Nat.lt_succ_self _)
    rw [rput_same] at z
    exact z
end
/-- the inner for: what is made so far goes on -/
def lcInL (ci : CI) (g : CG) (t : CT) (c : CE) (env : AEnv) : Nat → Nat → List AV → CM (List AV)
  | 0, _, _ => fun _ => .no
  | f + 1, i, acc => fun ah => match ci ah i with
    | .no => .no
    | .stop => .ok acc ah
    | .yld x => match g x env ah with
      | .nx e1 ah1 => match t e1 ah1 with
        | .ok true ah2 => match c e1 ah2 with
          | .ok y ah3 => if acc.length < LIM then lcInL ci g t c env f (i + 1) (acc ++ [y]) ah3 else .no
          | _ => .no
        | .ok false ah2 => lcInL ci g t c env f (i + 1) acc ah2
        | _ => .no
      | _ => .no
def lc2L (ci : CI) (g : CG) (t : CT) (it1 : CIE) (g1 : CG) (t1 : CT) (c : CE) (vs1 : List Nat) (env : AEnv) : Nat → Nat → List AV → CM AV
  | 0, _, _ => fun _ => .no
  | f + 1, i, acc => fun ah => match ci ah i with
    | .no => .no
    | .stop => .ok (.obj ah.length) (ah ++ [.lst acc])
    | .yld x => match g x env ah with
      | .nx e1 ah1 => match t e1 ah1 with
        | .ok true ah2 => match it1 e1 ah2 with
          | .ok ci1 ah3 => match lcInL ci1 g1 t1 c (wipeE e1 vs1) FUEL 0 acc ah3 with
            | .ok acc2 ah4 => lc2L ci g t it1 g1 t1 c vs1 env f (i + 1) acc2 ah4
            | _ => .no
          | _ => .no
        | .ok false ah2 => lc2L ci g t it1 g1 t1 c vs1 env f (i + 1) acc ah2
        | _ => .no
      | _ => .no
def cLc2 (it : CIE) (g : CG) (t : CT) (it1 : CIE) (g1 : CG) (t1 : CT) (c : CE) (vs vs1 : List Nat) : CE := fun env ah => match it env ah with
  | .no => .no
  | .er x ah1 => .er x ah1
  | .ok ci ah1 => lc2L ci g t it1 g1 t1 c vs1 (wipeE env vs) FUEL 0 [] ah1
section
variable {X : Cx} {E : XK} {pos : Pos} {tg iter tg1 iter1 elt : Expr} {ifs ifs1 : List Expr} {it it1 : CIE} {g g1 : CG} {t t1 : CT} {c : CE} {scope : Scope} {own : List (Str × Nat)}
theorem lc2_cut {vs vs1 : List Nat} {σ : L2.St} {H : Hp} {Q : VK} (q : tE (kc X) E (cLc2 it g t it1 g1 t1 c vs vs1) σ H Q) :
    tLc2 (tI (kc X) E it) (tGs (kc X) EN g vs) (tT (kc X) EN t) (tI (kc X) EN it1) (tGs (kc X) EN g1 vs1) (tT (kc X) EN t1) (tE (kc X) EN c) vs vs1 σ H Q := by
  obtain ⟨ρ, ah, env, R, RE, q⟩ := q
  refine ⟨ρ, ah, env, R, RE, ?_⟩
  unfold cLc2 at q
  cases ha : it env ah with
  | no => rw [ha] at q; exact q
  | er x ah1 => rw [ha] at q; exact q
  | ok ci ah1 =>
    rw [ha] at q
    intro ρ1 H1 J e1 R1 its D hD
    have q := Aft.pre e1 q
    dsimp only at q
    let W : Nat → Nat → Hp → Prop := fun i m H' => ∃ ρ' ah' acc vacc, Asd (kc X) ρ1 ah1.length H1 D ρ' ah' acc vacc H' ∧ Aft (kc X) E ρ1 ah1.length H1 (lc2L ci g t it1 g1 t1 c vs1 (wipeE env vs) m i acc ah') Q
    refine ⟨W, ⟨FUEL, ρ1, ah1, [], [], .start R1 hD, q⟩, ?_⟩
    rintro i m H' ⟨ρ', ah', acc, vacc, a, q⟩
    cases m with
    | zero => exact (show False from q).elim
    | succ f =>
      unfold lc2L at q
      obtain ⟨i1, i2⟩ := its ρ' ah' H' i a.ex.w a.rp
      cases hx : ci ah' i with
      | no => rw [hx] at q; exact (show False from q).elim
      | stop =>
        rw [hx] at q
        exact .inl ⟨i1 hx, a.done hD q⟩
      | yld x =>
        rw [hx] at q
        obtain ⟨go, y⟩ := i2 x hx
        refine .inr ⟨go, fun H2 => W (i + 1) f H2, fun H2 h => ⟨f, Nat.lt_succ_self f, h⟩, fun v H2 hv => ?_⟩
        obtain ⟨e3, R2, rv⟩ := y v H2 hv
        have a2 := a.step e3 R2
        refine ⟨ρ', ah', wipeE env vs, x, R2, (RE.mono (e1.trans a2.ex)).wipe vs, rv, ?_⟩
        dsimp only at q
        cases hgx : g x (wipeE env vs) ah' with
        | no => rw [hgx] at q; exact (show False from q).elim
        | er y ah2 => rw [hgx] at q; exact (show False from q).elim
        | rt y ah2 => rw [hgx] at q; exact (show False from q).elim
        | bk y ah2 => rw [hgx] at q; exact (show False from q).elim
        | ct y ah2 => rw [hgx] at q; exact (show False from q).elim
        | nx en ah2 =>
          rw [hgx] at q
          intro ρ3 H3 σ3 e4 R3 RE3 o3
          have a3 := a2.step e4 R3
          refine ⟨wipe_outs o3, ρ3, ah2, en, R3, RE3, ?_⟩
          dsimp only at q
          cases htx : t en ah2 with
          | no => rw [htx] at q; exact (show False from q).elim
          | er y ah3 => rw [htx] at q; exact (show False from q).elim
          | ok b ah3 =>
            rw [htx] at q
            intro ρ4 H4 e5 R4
            have a4 := a3.step e5 R4
            cases b with
            | false => exact ⟨ρ4, ah3, acc, vacc, a4, q⟩
            | true =>
              dsimp only at q
              refine ⟨ρ4, ah3, en, R4, RE3.mono e5, ?_⟩
              cases hit : it1 en ah3 with
              | no => rw [hit] at q; exact (show False from q).elim
              | er y ah4 => rw [hit] at q; exact (show False from q).elim
              | ok ci1 ah4 =>
                rw [hit] at q
                dsimp only at q
                intro ρ5 H5 J1 e6 R5 its1
                have a5 := a4.step e6 R5
                cases hin : lcInL ci1 g1 t1 c (wipeE en vs1) FUEL 0 acc ah4 with
                | no => rw [hin] at q; exact (show False from q).elim
                | er y ahz => rw [hin] at q; exact (show False from q).elim
                | ok acc2 ahz =>
                  rw [hin] at q
                  dsimp only at q
                  let W1 : Nat → Nat → Hp → Prop := fun j k H' => ∃ ρ' ah' acc' vacc', Asd (kc X) ρ1 ah1.length H1 D ρ' ah' acc' vacc' H' ∧ ExtW ρ5 ah4.length H5 ρ' ah'.length H' ∧ REnv (kc X) ρ' ah'.length H' (wipeE en vs1) (L2.wipe σ3 vs1) ∧
                    lcInL ci1 g1 t1 c (wipeE en vs1) k j acc' ah' = .ok acc2 ahz
                  refine ⟨W1, ⟨FUEL, ρ5, ah4, acc, vacc, a5, Ext.refl.w, ((RE3.mono e5).mono e6).wipe vs1, hin⟩, ?_⟩
                  rintro j k H' ⟨ρ', ah', acc', vacc', a', x', RE', q'⟩
                  cases k with
                  | zero => cases q'
                  | succ k =>
                    unfold lcInL at q'
                    obtain ⟨j1, j2⟩ := its1 ρ' ah' H' j x' a'.rp
                    cases hx1 : ci1 ah' j with
                    | no => rw [hx1] at q'; cases q'
                    | stop =>
                      rw [hx1] at q'
                      cases q'
                      exact .inl ⟨j1 hx1, ρ', _, _, vacc', a', q⟩
                    | yld x =>
                      rw [hx1] at q'
                      obtain ⟨go1, y1⟩ := j2 x hx1
                      refine .inr ⟨go1, fun H2 => W1 (j + 1) k H2, fun H2 h => ⟨k, Nat.lt_succ_self k, h⟩, fun v H2 hv => ?_⟩
                      obtain ⟨e7, R7, rv7⟩ := y1 v H2 hv
                      have a7 := a'.step e7 R7
                      refine ⟨ρ', ah', wipeE en vs1, x, R7, RE'.mono e7, rv7, ?_⟩
                      dsimp only at q'
                      cases hgx : g1 x (wipeE en vs1) ah' with
                      | no => rw [hgx] at q'; cases q'
                      | er y ah2 => rw [hgx] at q'; cases q'
                      | rt y ah2 => rw [hgx] at q'; cases q'
                      | bk y ah2 => rw [hgx] at q'; cases q'
                      | ct y ah2 => rw [hgx] at q'; cases q'
                      | nx en1 ah6 =>
                        rw [hgx] at q'
                        intro ρ8 H8 σ8 e8 R8 RE8 o8
                        have a8 := a7.step e8 R8
                        refine ⟨wipe_outs o8, ρ8, ah6, en1, R8, RE8, ?_⟩
                        dsimp only at q'
                        cases htx : t1 en1 ah6 with
                        | no => rw [htx] at q'; cases q'
                        | er y ah3 => rw [htx] at q'; cases q'
                        | ok b ah7 =>
                          rw [htx] at q'
                          intro ρ9 H9 e9 R9
                          have a9 := a8.step e9 R9
                          have e79 := e7.trans (e8.trans e9)
                          have x9 := x'.trans e79.w
                          cases b with
                          | false => exact ⟨ρ9, ah7, acc', vacc', a9, x9, RE'.mono e79, q'⟩
                          | true =>
                            refine ⟨ρ9, ah7, en1, R9, RE8.mono e9, ?_⟩
                            dsimp only at q'
                            cases hcx : c en1 ah7 with
                            | no => rw [hcx] at q'; cases q'
                            | er y ah4 => rw [hcx] at q'; cases q'
                            | ok y ah8 =>
                              rw [hcx] at q'
                              dsimp only at q'
                              intro ρa Ha va ea Ra ra
                              have aa := a9.step ea Ra
                              split at q'
                              · rename_i hl
                                have ap := aa.push hD ra
                                have ew : ExtW ρa ah8.length Ha ρa ah8.length (upd Ha D (.lst (vacc' ++ [va]))) := ⟨Nat.le_refl _, fun _ _ => rfl, fun b o h s => by
                                  rw [upd_ne]
                                  · exact h
                                  · rintro rfl
                                    rw [aa.at_] at h
                                    cases h
                                    exact s.elim⟩
                                refine ⟨vacc', aa.at_, Nat.lt_of_lt_of_le (by rw [← aa.rv.length]; exact hl) lim_line, ρa, ah8, acc' ++ [y], vacc' ++ [va], ap, (x9.trans ea.w).trans ew, ?_, q'⟩
                                exact REnv.monoW (RE'.mono (e79.trans ea)) ew
                              · cases q'
end
section
variable {X : Cx} {E : XK} {pos : Pos} {tg iter tg1 iter1 elt : Expr} {ifs ifs1 : List Expr} {it it1 : CIE} {g g1 : CG} {t t1 : CT} {c : CE} {scope : Scope} {own : List (Str × Nat)}
theorem e_lc2 {vs1 : List Nat} (hc : X.calm = true) (hN : X.N.Nodup) (hi : PI X tg iter (tI (kc X) E it)) (ok : BlkOk X.N X.env.scope scope own) (hv : ∀ i ∈ vs1, i ∈ own.map (·.2))
    (hg : ∀ (s : Shared) (H : Hp) (Cc : Addr) (cl : List (Str × Addr)) (fp : List Addr), PG (X.blk s H scope (compEnvC scope cl Cc X.env) fp) tg (tGs (kc X) EN g (own.map (·.2)))) (ht : ∀ (s : Shared) (H : Hp) (Cc : Addr) (cl : List (Str × Addr)) (fp : List Addr), PTs (X.blk s H scope (compEnvC scope cl Cc X.env) fp) ifs (tT (kc X) EN t))
    (hi1 : ∀ (s : Shared) (H : Hp) (Cc : Addr) (cl : List (Str × Addr)) (fp : List Addr), PI (X.blk s H scope (compEnvC scope cl Cc X.env) fp) tg1 iter1 (tI (kc X) EN it1))
    (hg1 : ∀ (s : Shared) (H : Hp) (Cc : Addr) (cl : List (Str × Addr)) (fp : List Addr), PG (X.blk s H scope (compEnvC scope cl Cc X.env) fp) tg1 (tGs (kc X) EN g1 vs1)) (ht1 : ∀ (s : Shared) (H : Hp) (Cc : Addr) (cl : List (Str × Addr)) (fp : List Addr), PTs (X.blk s H scope (compEnvC scope cl Cc X.env) fp) ifs1 (tT (kc X) EN t1))
    (he : ∀ (s : Shared) (H : Hp) (Cc : Addr) (cl : List (Str × Addr)) (fp : List Addr), PE (X.blk s H scope (compEnvC scope cl Cc X.env) fp) elt (tE (kc X) EN c)) (hs : ∀ x, foldedSetIterable iter X.env x = pure x := by intro _; rfl) (hs1 : ∀ env x, foldedSetIterable iter1 env x = pure x := by intro _ _; rfl) :
    PE X (.ListComp elt [⟨tg, iter, ifs, 0⟩, ⟨tg1, iter1, ifs1, 0⟩] scope pos) (tE (kc X) E (cLc2 it g t it1 g1 t1 c (own.map (·.2)) vs1)) := pe_imp (pe_lc2 hc hN hi ok hv hg ht hi1 hg1 ht1 he hs hs1) fun _ _ _ q => lc2_cut q
theorem s_setLc2 {vs1 : List Nat} {y : Str} {py spos : Pos} (i : Nat) (hc : X.calm = true) (hN : X.N.Nodup) (hy : X.N[i]? = some y) (hyl : X.env.scope.names.lookup y = some .local)
    (hsw : swapsWith (.ListComp elt [⟨tg, iter, ifs, 0⟩, ⟨tg1, iter1, ifs1, 0⟩] scope pos) (some (.Name y py)) spos.line X.env = pure true) (hi : PI X tg iter (tI (kc X) E it)) (ok : BlkOk X.N X.env.scope scope own) (hv : ∀ i ∈ vs1, i ∈ own.map (·.2))
    (hg : ∀ (s : Shared) (H : Hp) (Cc : Addr) (cl : List (Str × Addr)) (fp : List Addr), PG (X.blk s H scope (compEnvC scope cl Cc X.env) fp) tg (tGs (kc X) EN g (own.map (·.2)))) (ht : ∀ (s : Shared) (H : Hp) (Cc : Addr) (cl : List (Str × Addr)) (fp : List Addr), PTs (X.blk s H scope (compEnvC scope cl Cc X.env) fp) ifs (tT (kc X) EN t))
    (hi1 : ∀ (s : Shared) (H : Hp) (Cc : Addr) (cl : List (Str × Addr)) (fp : List Addr), PI (X.blk s H scope (compEnvC scope cl Cc X.env) fp) tg1 iter1 (tI (kc X) EN it1))
    (hg1 : ∀ (s : Shared) (H : Hp) (Cc : Addr) (cl : List (Str × Addr)) (fp : List Addr), PG (X.blk s H scope (compEnvC scope cl Cc X.env) fp) tg1 (tGs (kc X) EN g1 vs1)) (ht1 : ∀ (s : Shared) (H : Hp) (Cc : Addr) (cl : List (Str × Addr)) (fp : List Addr), PTs (X.blk s H scope (compEnvC scope cl Cc X.env) fp) ifs1 (tT (kc X) EN t1))
    (he : ∀ (s : Shared) (H : Hp) (Cc : Addr) (cl : List (Str × Addr)) (fp : List Addr), PE (X.blk s H scope (compEnvC scope cl Cc X.env) fp) elt (tE (kc X) EN c)) (hs : ∀ x, foldedSetIterable iter X.env x = pure x := by intro _; rfl) (hs1 : ∀ env x, foldedSetIterable iter1 env x = pure x := by intro _ _; rfl) :
    PS X (.Assign [.Name y py] (.ListComp elt [⟨tg, iter, ifs, 0⟩, ⟨tg1, iter1, ifs1, 0⟩] scope pos) spos) (tS (kc X) E (cAsg (cLc2 it g t it1 g1 t1 c (own.map (·.2)) vs1) (gNam i))) := ps_imp (ps_setLc2 (i := i) hc hN hy hyl hsw hi ok hv hg ht hi1 hg1 ht1 he hs hs1) fun D σ H ⟨ρ, ah, env, R, RE, q⟩ => by
  refine lc2_cut (E := E) ⟨ρ, ah, env, R, RE, ?_⟩
  unfold cAsg at q
  cases hh : cLc2 it g t it1 g1 t1 c (own.map (·.2)) vs1 env ah with
  | no => rw [hh] at q; exact q
  | er x ah1 => rw [hh] at q; exact q
  | ok x ah1 =>
    rw [hh] at q
    exact fun ρ1 H1 v e1 R1 r => q ρ1 H1 _ e1 R1 ((RE.mono e1).set i r)
end
end Sm

set_option Elab.async false
set_option linter.all false
set_option maxRecDepth 100000
set_option maxHeartbeats 4000000
namespace Sm
open PySem PySem.Spec PyProof.Rows L2

/-! ### one of two mirrors -/
def cAlt (a b : CE) : CE := fun env ah => match a env ah with
  | .no => b env ah
  | r => r
theorem e_alt {X : Cx} {E : XK} {e : Expr} {a b : CE} (h1 : PE X e (tE (kc X) E a)) (h2 : PE X e (tE (kc X) E b)) : PE X e (tE (kc X) E (cAlt a b)) := pe_imp (pe_or h1 h2) fun σ H Q ⟨ρ, ah, env, R, RE, q⟩ => by
  unfold cAlt at q
  cases h : a env ah with
  | no => rw [h] at q; exact .inr ⟨ρ, ah, env, R, RE, q⟩
  | ok x ah1 => rw [h] at q; exact .inl ⟨ρ, ah, env, R, RE, by rw [h]; exact q⟩
  | er x ah1 => rw [h] at q; exact .inl ⟨ρ, ah, env, R, RE, by rw [h]; exact q⟩
/-! ### the text's defs, called from deeper -/
section
variable {X : Cx} {CX : CXT} {k n : Nat} {f : Addr} {fd : FuncData} {ps ks : List Str} {sp : Sp} {E : XK} {pins : List (Addr × Obj)} {σ : L2.St} {H : Hp} {s : Shared} {Q : VK} {us ws : List Value} {vs zs : List V} {A : Around}
theorem run_fnA (F : FnOk X.prog X.w X.K X.mg X.base CX k f fd ps sp) (hr : Room k A) (e0 : Env0 X.prog X.w X.K X.mg X.base A X.stack s H) (hb : Binds X.K fd ps []) (hx : Passes CX X E) (I : Inv X pins σ H s) (r : Vals vs us) (h : sp vs H Q E) :
    wpAny (model X.prog X.w) A (call (.ref f) us) (EP X pins σ Q) X.xe s := by
  have hl := F.len _ _ _ _ h
  refine wpAny_call (codeAny_mono (F.run A X.stack s H ⟨us, []⟩ us vs Q E hr e0 (by
    have := hb s us I.kIn (by simpa [← r.length] using hl)
    simpa using this) r h) fun r s' hq => ?_)
  cases r with
  | error e => exact hx pins σ H s e s' I hq
  | ok fl => cases fl with
    | ret u => exact I.after hq
    | _ => exact False.elim hq
end
/-! ### str(o), o an instance with a __str__ of the text's own -/
structure OwnStr (K : PySem.W.Frag) (c : Str) : Prop where
  at_ : PySem.W.findIn K (.ref (He.ga K c)) "__str__" = some (some (.ref (He.ma K (He.ga K c) "__str__")))
  fn : PySem.W.isFn K (.ref (He.ma K (He.ga K c) "__str__")) = true
def insC (c : Str) (x : AV) (ah : AH) : Bool := match x with
  | .obj i => match ah[i]? with
    | some (.ins c' _) => c' == c
    | _ => false
  | _ => false
def cStrO (c : Str) (m : List AV → CM AV) (ce : CE) : CE := fun env => bind (ce env) fun x ah => if insC c x ah = true then match m [x] ah with
  | .ok (.str s) ah1 => .ok (.str s) ah1
  | .er y ah1 => .er y ah1
  | _ => .no else .no
theorem insC_at {C : KC} {ρ : Nat → Addr} {ah : AH} {H : Hp} {c : Str} {x : AV} {v : V} (R : Rep C ρ ah H) (r : RV C ρ ah.length H x v) (h : insC c x ah = true) : ∃ a Ca dx ws, v = .ref a ∧ C.mg c = some (.ref Ca) ∧ H a = some (.ins Ca dx ws) := by
  unfold insC at h
  split at h
  · split at h
    · rename_i i _ c' fs e
      obtain ⟨hi, rfl⟩ := r.obj_inv
      obtain ⟨Ca, dx, ws, h1, h2, _⟩ := R.obj _ _ e
      have e2 : c' = c := by simpa using h
      subst e2
      exact ⟨_, Ca, dx, ws, rfl, h1, h2⟩
    · cases h
  · cases h
theorem x_strO {X : Cx} {E : XK} {c : Str} {e : Expr} {ce : CE} {p pos : Pos} {j k : Nat} {x : Str} {m : List AV → CM AV} (F : Has X.prog X.w X.K X.mg X.base j (c, some "__str__") [x] m) (hr : Room k X.A) (hjk : j + 2 ≤ k) (O : OwnStr X.K c) (hc : X.mg c = some (.ref (He.ga X.K c))) (hm : X.mg "str" = none) (hx : Passes (L2.CX X.prog X.w) X E)
    (ha : PE X e (tE (kc X) E ce)) (hg : Gl X "str" := by rfl) (na : starEach [e] X.env = (false, eval e X.env) :: starEach [] X.env := by rfl) : PE X (.Call (.Name "str" p) [e] [] pos) (tE (kc X) E (cStrO c m ce)) := ⟨fun pins s σ H Q I ⟨ρ, ah, env, R, RE, q⟩ => by
  obtain ⟨fd, F, b, _⟩ := F.ex
  have q1 : tE (kc X) E ce σ H fun v H1 => ∃ a dx ws, v = .ref a ∧ H1 a = some (.ins (He.ga X.K c) dx ws) ∧ spM (kc X) 1 m [v] H1 (fun u H2 => ∃ z, u = .str z ∧ Q (.str z) H2) E := by
    refine ⟨ρ, ah, env, R, RE, ?_⟩
    unfold cStrO bind at q
    cases hh : ce env ah with
    | no => rw [hh] at q; exact q
    | er x ah1 => rw [hh] at q; exact q
    | ok x ah1 =>
      rw [hh] at q
      intro ρ1 H1 v e1 R1 r
      replace q := Aft.pre e1 q
      dsimp only at q
      split at q
      · obtain ⟨a, Ca, dx, ws, rfl, h1, h2⟩ := insC_at R1 r ‹_›
        cases h1.symm.trans hc
        refine ⟨a, dx, ws, rfl, h2, ρ1, ah1, [x], R1, .cons r .nil, rfl, ?_⟩
        cases hh2 : m [x] ah1 with
        | no => rw [hh2] at q; exact (show False from q).elim
        | er y ah2 => rw [hh2] at q; exact q
        | ok y ah2 =>
          rw [hh2] at q
          intro ρ2 H2 v2 e2 R2 r2
          cases y with
          | str z => exact ⟨z, r2.str_inv, q ρ2 H2 _ e2 R2 (.str z)⟩
          | _ => exact (show False from q).elim
      · exact (show False from q).elim
  refine Call_ (ld_blt I hg hm PyProof.Rows.boot_str (PyProof.Rows.callWith_type1 (PyProof.Rows.args_cons (thn (ha.run pins s σ H _ I q1) fun v s1 ⟨x, H1, I1, r1, q2⟩ => PyProof.Rows.args_nil ?_) na) na rfl))
  obtain ⟨a, dx, ws, rfl, ea, q2⟩ := q2
  cases (show v = Value.ref a from r1)
  obtain ⟨mA, J, _⟩ := ins_get I1.hok ea
  obtain ⟨od, J, _⟩ := J.look
  have hr2 : Room j X.A.in1.in1 := (hr.mono hjk).in1.in1
  refine PySem.W.kso_call hr2.units0 I1.kIn J O.at_ O.fn ?_
  refine wpAny_mono (run_fnA (A := X.A.in1.in1) F hr2 I1.env0.in1.in1 b hx I1 (us := [.ref a]) (vs := [.ref a]) (.cons rfl .nil) q2) (fun u s2 ⟨z, H2, I2, rz, z2, ez, q3⟩ => ?_) fun _ _ e => e
  subst ez
  obtain ⟨t, rfl⟩ := rz
  exact ⟨.str z2, H2, I2, ⟨t, rfl⟩, q3⟩⟩
/-! ### == and != of instances with an __eq__ of the text's own -/
structure OwnEq (K : PySem.W.Frag) (c : Str) : Prop where
  at_ : PySem.W.findIn K (.ref (He.ga K c)) "__eq__" = some (some (.ref (He.ma K (He.ga K c) "__eq__")))
  fn : PySem.W.isFn K (.ref (He.ma K (He.ga K c) "__eq__")) = true
  ne : PySem.W.findIn K (.ref (He.ga K c)) "__ne__" = some (some (.builtin "object.__ne__"))
  ob : PySem.W.mroIn K (He.ga K c) (.type "object") = some true
section
variable {prog : Program} {w : PySem.World} {A : Around} {E : Value → Shared → Prop} {s : Shared} {K : PySem.W.Frag} {x y C f : Addr} {ox oy : Obj} {od oe : Option Obj}
/-- != by way of an own == -/
theorem ne_own {Q : Value → Shared → Prop} (hu : A.units + 4 < cLine) (X : K.In s.heap) (I : PySem.W.InstAt s.heap x ox C od) (J : PySem.W.InstAt s.heap y oy C oe) (hs : PySem.W.findIn K (.ref C) "__eq__" = some (some (.ref f))) (hf : PySem.W.isFn K (.ref f) = true)
    (hn : PySem.W.findIn K (.ref C) "__ne__" = some (some (.builtin "object.__ne__"))) (ho : PySem.W.mroIn K C (.type "object") = some true)
    (h : wpAny (model prog w) A.in1 (call (.ref f) [.ref x, .ref y]) (fun v s' => ∃ b, v = .bool b ∧ Q (.bool (!b)) s') E s) : wpAny (model prog w) A (richCompare .NotEq (.ref x) (.ref y)) Q E s := by
  have entry : wpAny (model prog w) A.in1 (Builtin.«object.__ne__» ⟨[.ref x, .ref y], []⟩) (fun fin s' => ∃ v, fin = .done (.ret v) ∧ (∃ b, v = .bool b ∧ Q (.bool b) s')) E s := by
    obtain ⟨hp, g, d, t, os⟩ := s
    unfold Builtin.«object.__ne__»
    repeat (first
      | with_reducible refine wpAny_cRoomFor (show A.in1.units < cLine by show A.units + 1 < cLine; omega) ?_
      | (refine wpAny_bind (m := callSpecialIfBound? (.ref x) (Str.ofString "__eq__") [.ref y]) (PySem.W.ifBound_K X I hs hf (wpAny_mono h (fun r s' hr => by
          obtain ⟨b, rfl, hq⟩ := hr
          repeat (first | exact ⟨_, rfl, _, rfl, hq⟩ | (refine wpAny_bind (m := truthy (.bool _)) (wpAny_truthy_bool ?_)) | refine wpAny_pure ?_ | wp_step)) fun _ _ e => e)))
      | wp_step)
  have asked : wpAny (model prog w) A (call (.builtin "object.__ne__") [.ref x, .ref y]) (fun v s' => ∃ b, v = .bool b ∧ Q (.bool b) s') E s :=
    wpAny_call (codeAny_call_builtin PySem.F.cmp_object.ne.plain PySem.F.cmpEntry_ne (PySem.W.check_slot PySem.F.cmpKind_ne PySem.F.cmpSplit_ne (I.type.andThen (PySem.W.looks_mroIn X ho)) (PySem.F.cmpArgs_ne _ _) (wpAny_mono entry (fun fin s' ⟨v, e, q⟩ => by subst e; exact q) fun _ _ e => e)))
  have one : wpAny (model prog w) A (tryCompare (.ref x) "__ne__" (.ref y)) (fun r s' => ∃ b, r = some (.bool b) ∧ Q (.bool b) s') E s := by
    unfold tryCompare
    refine wpAny_bind ?_
    simp only [callSpecialIfBound?, bindSpecialIfBound?]
    refine wpAny_holding (wpAny_bind (wpAny_bind (wpAny_bind (I.type.here ((PySem.W.looks_findIn X hn).here ?_)))))
    refine wpAny_bind (wpAny_askSetting (wpAny_ite ?_))
    have fin : wpAny (model prog w) A (call (.builtin "object.__ne__") ([.ref x] ++ [.ref y]) >>= fun v => pure (some v)) (fun r s' => wpAny (model prog w) A (match r with
        | some .notImplemented => pure none
        | none => pure none
        | some v => pure (some v)) (fun r s' => ∃ b, r = some (.bool b) ∧ Q (.bool b) s') E s') E s := wpAny_bind (wpAny_mono asked (fun v s' ⟨b, e, q⟩ => by
      subst e
      exact wpAny_pure (wpAny_pure ⟨b, rfl, q⟩)) fun _ _ e => e)
    split
    · exact wpAny_bind (wpAny_of_eq (PySem.F.cmp_object.ne.bind _) (wpAny_pure (by exact fin)))
    · exact wpAny_tryCatch (wpAny_bind (wpAny_of_eq (PySem.F.cmp_object.ne.bind _) (wpAny_pure (by exact fin))))
  unfold richCompare
  simp only [oneThing_ref]
  refine wpAny_holding (wpAny_bind (wpAny_cRoomFor (by omega) ?_))
  rw [cmpInfo_NotEq]
  refine wpAny_bind (I.type.here (wpAny_bind (J.type.here ?_)))
  rw [show (Value.ref C != Value.ref C) = false from by simp]
  simp only [Bool.false_eq_true, if_false]
  refine wpAny_bind (wpAny_pure ?_)
  simp only [Bool.false_eq_true, if_false]
  refine wpAny_bind (wpAny_mono one (fun r s' z => ?_) fun _ _ e => e)
  obtain ⟨b, rfl, hq⟩ := z
  exact wpAny_pure hq
end
def cEqO (neg : Bool) (c : Str) (m : List AV → CM AV) (ca cb : CE) : CE := fun env => bind (ca env) fun x => bind (cb env) fun y => fun ah => if insC c x ah = true ∧ insC c y ah = true then match m [x, y] ah with
  | .ok (.bl r) ah1 => .ok (.bl (if neg then !r else r)) ah1
  | .er z ah1 => .er z ah1
  | _ => .no else .no
section
variable {X : Cx} {E : XK} {c : Str} {a b : Expr} {ca cb : CE} {pos : Pos} {j k : Nat} {x y : Str} {m : List AV → CM AV}
def rEqO (X : Cx) (E : XK) (neg : Bool) (c : Str) (m : List AV → CM AV) : R2 := fun u v H Q => ∃ p q dx ws dy us, u = .ref p ∧ v = .ref q ∧ H p = some (.ins (He.ga X.K c) dx ws) ∧ H q = some (.ins (He.ga X.K c) dy us) ∧ spM (kc X) 2 m [u, v] H (fun z H2 => ∃ r, z = .bl r ∧ Q (.bl (if neg then !r else r)) H2) E
theorem op_eqO (F : Has X.prog X.w X.K X.mg X.base j (c, some "__eq__") [x, y] m) (hr : Room k X.A) (hjk : j ≤ k) (O : OwnEq X.K c) (hx : Passes (L2.CX X.prog X.w) X E) : OpR X (compareOp .Eq) (rEqO X E false c m) := by
  rintro pins s σ H u v uu vv Q I ru rv ⟨p, q, dx, ws, dy, us, rfl, rfl, ep, eq, h⟩
  cases (show uu = Value.ref p from ru)
  cases (show vv = Value.ref q from rv)
  obtain ⟨fd, F, b, _⟩ := F.ex
  obtain ⟨mA, J, _⟩ := ins_get I.hok ep
  obtain ⟨mB, J', _⟩ := ins_get I.hok eq
  obtain ⟨od, J, _⟩ := J.look
  obtain ⟨oe, J', _⟩ := J'.look
  obtain ⟨mm, hF⟩ := I.fr
  have hr1 := hr.mono hjk
  show wpAny (model X.prog X.w) X.A (richCompare .Eq (.ref p) (.ref q)) _ _ _
  refine PySem.W.cmp_K (op := .Eq) hr1.units0 hF I.ok.mod.kin J J'.type (by simp [PySem.W.notFirst]) O.at_ O.fn ?_
  refine wpAny_mono (run_fnA (A := X.A) F hr1 I.env0 b hx I (us := [.ref p, .ref q]) (vs := [.ref p, .ref q]) (.cons rfl (.cons rfl .nil)) h) (fun z s2 ⟨w2, H2, I2, rz, r, ez, q3⟩ => ?_) fun _ _ e => e
  subst ez
  cases rz
  exact ⟨.bl r, H2, I2, rfl, q3⟩
theorem op_neO (F : Has X.prog X.w X.K X.mg X.base j (c, some "__eq__") [x, y] m) (hr : Room k X.A) (hjk : j + 1 ≤ k) (O : OwnEq X.K c) (hx : Passes (L2.CX X.prog X.w) X E) : OpR X (compareOp .NotEq) (rEqO X E true c m) := by
  rintro pins s σ H u v uu vv Q I ru rv ⟨p, q, dx, ws, dy, us, rfl, rfl, ep, eq, h⟩
  cases (show uu = Value.ref p from ru)
  cases (show vv = Value.ref q from rv)
  obtain ⟨fd, F, b, _⟩ := F.ex
  obtain ⟨mA, J, _⟩ := ins_get I.hok ep
  obtain ⟨mB, J', _⟩ := ins_get I.hok eq
  obtain ⟨od, J, _⟩ := J.look
  obtain ⟨oe, J', _⟩ := J'.look
  have hr1 : Room j X.A.in1 := (hr.mono hjk).in1
  show wpAny (model X.prog X.w) X.A (richCompare .NotEq (.ref p) (.ref q)) _ _ _
  refine ne_own (by have := hr.un; omega) I.kIn J J' O.at_ O.fn O.ne O.ob ?_
  refine wpAny_mono (run_fnA (A := X.A.in1) F hr1 I.env0.in1 b hx I (us := [.ref p, .ref q]) (vs := [.ref p, .ref q]) (.cons rfl (.cons rfl .nil)) h) (fun z s2 ⟨w2, H2, I2, rz, r, ez, q3⟩ => ?_) fun _ _ e => e
  subst ez
  cases rz
  exact ⟨r, rfl, .bl (!r), H2, I2, rfl, q3⟩
theorem eqO_cut {neg : Bool} (hc : X.mg c = some (.ref (He.ga X.K c))) {σ : L2.St} {H : Hp} {Q : VK} (q : tE (kc X) E (cEqO neg c m ca cb) σ H Q) : tOp (rEqO X E neg c m) (tE (kc X) E ca) (tE (kc X) E cb) σ H Q := by
  obtain ⟨ρ, ah, env, R, RE, q⟩ := q
  refine ⟨ρ, ah, env, R, RE, ?_⟩
  unfold cEqO at q
  cases ha : ca env ah with
  | no => simp only [bind, ha] at q; exact q
  | er x ah1 => simp only [bind, ha] at q; exact q
  | ok x ah1 =>
    simp only [bind, ha] at q
    intro ρ1 H1 vx e1 R1 rx
    refine ⟨ρ1, ah1, env, R1, RE.mono e1, ?_⟩
    replace q := Aft.pre e1 q
    cases hb : cb env ah1 with
    | no => simp only [hb] at q; exact q
    | er x ah1 => simp only [hb] at q; exact q
    | ok y ah2 =>
      simp only [hb] at q
      intro ρ2 H2 vy e2 R2 ry
      replace q := Aft.pre e2 q
      replace rx := rx.mono e2
      split at q
      · rename_i hi
        obtain ⟨p, Ca, dx, ws, rfl, h1, h2⟩ := insC_at R2 rx hi.1
        obtain ⟨p', Cb, dy, us, rfl, h3, h4⟩ := insC_at R2 ry hi.2
        cases h1.symm.trans hc
        cases h3.symm.trans hc
        refine ⟨p, p', dx, ws, dy, us, rfl, rfl, h2, h4, ρ2, ah2, [x, y], R2, .cons rx (.cons ry .nil), rfl, ?_⟩
        cases hh : m [x, y] ah2 with
        | no => rw [hh] at q; exact (show False from q).elim
        | er z ah3 => rw [hh] at q; exact q
        | ok z ah3 =>
          rw [hh] at q
          intro ρ3 H3 v3 e3 R3 r3
          cases z with
          | bl r => exact ⟨r, r3.bl_inv, q ρ3 H3 _ e3 R3 (.bl _)⟩
          | _ => exact (show False from q).elim
      · exact (show False from q).elim
theorem x_eqO (F : Has X.prog X.w X.K X.mg X.base j (c, some "__eq__") [x, y] m) (hr : Room k X.A) (hjk : j ≤ k) (O : OwnEq X.K c) (hc : X.mg c = some (.ref (He.ga X.K c))) (hx : Passes (L2.CX X.prog X.w) X E) (ha : PE X a (tE (kc X) E ca)) (hb : PE X b (tE (kc X) E cb)) (hm : behindInMarks .Eq b = false := by with_unfolding_all rfl) :
    PE X (.Compare a [.Eq] [b] pos) (tE (kc X) E (cEqO false c m ca cb)) := pe_imp (pe_cmpR (op_eqO F hr hjk O hx) ha hb hm) fun _ _ _ q => eqO_cut hc q
theorem x_neO (F : Has X.prog X.w X.K X.mg X.base j (c, some "__eq__") [x, y] m) (hr : Room k X.A) (hjk : j + 1 ≤ k) (O : OwnEq X.K c) (hc : X.mg c = some (.ref (He.ga X.K c))) (hx : Passes (L2.CX X.prog X.w) X E) (ha : PE X a (tE (kc X) E ca)) (hb : PE X b (tE (kc X) E cb)) (hm : behindInMarks .NotEq b = false := by with_unfolding_all rfl) :
    PE X (.Compare a [.NotEq] [b] pos) (tE (kc X) E (cEqO true c m ca cb)) := pe_imp (pe_cmpR (op_neO F hr hjk O hx) ha hb hm) fun _ _ _ q => eqO_cut hc q
theorem y_eqO (F : Has X.prog X.w X.K X.mg X.base j (c, some "__eq__") [x, y] m) (hr : Room k X.A) (hjk : j ≤ k) (O : OwnEq X.K c) (hc : X.mg c = some (.ref (He.ga X.K c))) (hx : Passes (L2.CX X.prog X.w) X E) (ha : PE X a (tE (kc X) E ca)) (hb : PE X b (tE (kc X) E cb)) (hm : behindInMarks .Eq b = false := by with_unfolding_all rfl) :
    PT X (.Compare a [.Eq] [b] pos) (tT (kc X) E (cTest (cEqO false c m ca cb))) := pt_imp (pt_cmpR (op_eqO F hr hjk O hx) ha hb hm) fun _ _ _ q => eqO_cut hc (test_cut q)
theorem y_neO (F : Has X.prog X.w X.K X.mg X.base j (c, some "__eq__") [x, y] m) (hr : Room k X.A) (hjk : j + 1 ≤ k) (O : OwnEq X.K c) (hc : X.mg c = some (.ref (He.ga X.K c))) (hx : Passes (L2.CX X.prog X.w) X E) (ha : PE X a (tE (kc X) E ca)) (hb : PE X b (tE (kc X) E cb)) (hm : behindInMarks .NotEq b = false := by with_unfolding_all rfl) :
    PT X (.Compare a [.NotEq] [b] pos) (tT (kc X) E (cTest (cEqO true c m ca cb))) := pt_imp (pt_cmpR (op_neO F hr hjk O hx) ha hb hm) fun _ _ _ q => eqO_cut hc (test_cut q)
end
def cAltT (a b : CT) : CT := fun env ah => match a env ah with
  | .no => b env ah
  | r => r
theorem pt_or {X : Cx} {e : Expr} {t u : TT} (h1 : PT X e t) (h2 : PT X e u) : PT X e (fun σ H Q => t σ H Q ∨ u σ H Q) := ⟨fun pins s σ H Q I q => q.elim (h1.run pins s σ H Q I) (h2.run pins s σ H Q I)⟩
theorem t_alt {X : Cx} {E : XK} {e : Expr} {a b : CT} (h1 : PT X e (tT (kc X) E a)) (h2 : PT X e (tT (kc X) E b)) : PT X e (tT (kc X) E (cAltT a b)) := pt_imp (pt_or h1 h2) fun σ H Q ⟨ρ, ah, env, R, RE, q⟩ => by
  unfold cAltT at q
  cases h : a env ah with
  | no => rw [h] at q; exact .inr ⟨ρ, ah, env, R, RE, q⟩
  | ok x ah1 => rw [h] at q; exact .inl ⟨ρ, ah, env, R, RE, by rw [h]; exact q⟩
  | er x ah1 => rw [h] at q; exact .inl ⟨ρ, ah, env, R, RE, by rw [h]; exact q⟩
end Sm

set_option Elab.async false
set_option linter.all false
set_option maxRecDepth 100000
set_option maxHeartbeats 4000000
namespace Sm
open PySem PySem.Spec PyProof.Rows L2

/-! ### how values come to parameters: by place, by name, by default -/
inductive Sel where
  | p (i : Nat) | k (i : Nat) | d (i : Nat)
def Sel.of {α : Type} (xs zs ds : List α) : Sel → Option α
  | .p i => xs[i]?
  | .k i => zs[i]?
  | .d i => ds[i]?
def gSel {α : Type} (sel : List Sel) (xs zs ds : List α) : List α := sel.filterMap (Sel.of xs zs ds)
theorem rv_none {C : KC} {ρ : Nat → Addr} {n : Nat} {H : Hp} {xs : List AV} {vs : List V} (r : RVs C ρ n H xs vs) (i : Nat) : (xs[i]? = none ∧ vs[i]? = none) ∨ ∃ x v, xs[i]? = some x ∧ vs[i]? = some v ∧ RV C ρ n H x v := by
  cases e : xs[i]? with
  | none =>
    refine .inl ⟨rfl, ?_⟩
    rw [List.getElem?_eq_none_iff] at e ⊢
    rw [← r.length]
    exact e
  | some x =>
    obtain ⟨v, h1, h2⟩ := r.get e
    exact .inr ⟨x, v, rfl, h1, h2⟩
theorem rvs_sel {C : KC} {ρ : Nat → Addr} {n : Nat} {H : Hp} {xs zs ds : List AV} {vs ws us : List V} (r1 : RVs C ρ n H xs vs) (r2 : RVs C ρ n H zs ws) (r3 : RVs C ρ n H ds us) : ∀ sel : List Sel, RVs C ρ n H (gSel sel xs zs ds) (gSel sel vs ws us)
  | [] => .nil
  | a :: sel => by
    have ih := rvs_sel r1 r2 r3 sel
    have one : (a.of xs zs ds = none ∧ a.of vs ws us = none) ∨ ∃ x v, a.of xs zs ds = some x ∧ a.of vs ws us = some v ∧ RV C ρ n H x v := by
      cases a
      · exact rv_none r1 _
      · exact rv_none r2 _
      · exact rv_none r3 _
    unfold gSel
    rcases one with ⟨h1, h2⟩ | ⟨x, v, h1, h2, h3⟩
    · rw [List.filterMap_cons_none h1, List.filterMap_cons_none h2]
      exact ih
    · rw [List.filterMap_cons_some h1, List.filterMap_cons_some h2]
      exact .cons h3 ih
theorem vals_none {vs : List V} {us : List Value} (r : Vals vs us) (i : Nat) : (vs[i]? = none ∧ us[i]? = none) ∨ ∃ x v, vs[i]? = some x ∧ us[i]? = some v ∧ RelV x v := by
  cases e : vs[i]? with
  | none =>
    refine .inl ⟨rfl, ?_⟩
    rw [List.getElem?_eq_none_iff] at e ⊢
    rw [← r.length]
    exact e
  | some x =>
    obtain ⟨v, h1, h2⟩ := r.get e
    exact .inr ⟨x, v, rfl, h1, h2⟩
theorem vals_sel {vs ws ds : List V} {us zs its : List Value} (r1 : Vals vs us) (r2 : Vals ws zs) (r3 : Vals ds its) : ∀ sel : List Sel, Vals (gSel sel vs ws ds) (gSel sel us zs its)
  | [] => .nil
  | a :: sel => by
    have ih := vals_sel r1 r2 r3 sel
    have one : (a.of vs ws ds = none ∧ a.of us zs its = none) ∨ ∃ x v, a.of vs ws ds = some x ∧ a.of us zs its = some v ∧ RelV x v := by
      cases a
      · exact vals_none r1 _
      · exact vals_none r2 _
      · exact vals_none r3 _
    unfold gSel
    rcases one with ⟨h1, h2⟩ | ⟨x, v, h1, h2, h3⟩
    · rw [List.filterMap_cons_none h1, List.filterMap_cons_none h2]
      exact ih
    · rw [List.filterMap_cons_some h1, List.filterMap_cons_some h2]
      exact .cons h3 ih
def selA (sel : List Sel) (da : List AV) : List AV → List AV → List AV := fun xs zs => gSel sel xs zs da
theorem gives_sel {C : KC} {sel : List Sel} {da : List AV} {dvs : List V} (h : RDs C da dvs) : Gives C (selA sel da) (fun vs zs => gSel sel vs zs dvs) := fun ρ n H xs vs zs ws r1 r2 => rvs_sel r1 r2 (h ρ n H) sel
section
variable {K : PySem.W.Frag} {x qual : Str} {params : Arguments} {body : List Stmt} {scope : Scope} {dvs : List V} {kws : List (Str × V)} {f : Addr} {fd : FuncData} {ps : List Str}
/-- no defaults -/
theorem kbn_no (F : FunD K x qual params body scope [] kws f fd) (n : Nat) (ks : List Str) (sel : List Sel)
    (h : ∀ (kV doc pm : Value) (an : Option Addr) (cdv ct : Value) (us ws : List Value), us.length = n → ws.length = ks.length → bindArgs (PySem.W.fnOf x qual params body scope .none kV doc pm an cdv ct) ⟨us, ks.zip ws⟩ = pure (ps.zip (gSel sel us ws []))) :
    KBn K fd ps n ks (fun us ws => gSel sel us ws []) (fun vs zs => gSel sel vs zs []) := by
  obtain ⟨oc, od, dV, kV, doc, pm, an, cdv, ct, osl, rfl, lk, hcd, hD, hK⟩ := F.ex
  rcases hD with ⟨_, rfl⟩ | ⟨e, _⟩
  · exact ⟨fun s us ws X l1 l2 => .of_eq (h kV doc pm an cdv ct us ws l1 l2), fun r1 r2 => vals_sel r1 r2 .nil sel⟩
  · exact absurd rfl e
theorem kbn_df (F : FunD K x qual params body scope dvs kws f fd) (n : Nat) (ks : List Str) (sel : List Sel) (hd : dvs ≠ [])
    (h : ∀ (T : Addr) (kV doc pm : Value) (an : Option Addr) (cdv ct : Value) (us its ws : List Value), us.length = n → its.length = dvs.length → ws.length = ks.length →
      ∃ k, bindArgs (PySem.W.fnOf x qual params body scope (.ref T) kV doc pm an cdv ct) ⟨us, ks.zip ws⟩ = seqItems? (.ref T) >>= k ∧ k (some its.toArray) = pure (ps.zip (gSel sel us ws its))) :
    ∃ its : List Value, KBn K fd ps n ks (fun us ws => gSel sel us ws its) (fun vs zs => gSel sel vs zs dvs) := FunD.kbindsD F n ks (fun us its ws => gSel sel us ws its) hd (fun r1 r2 r3 => vals_sel r1 r3 r2 sel) h
end
/-! ### o.m(.., k = v) -/
def cMethK (c mn : Str) (k n l : Nat) (m : List AV → CM AV) (gA : List AV → List AV → List AV) (co : CE) (cs ck : CA) : CE := fun env => bind (co env) fun x ah => match x with
  | .obj i => match ah[i]? with
    | some (.ins c' fs) => if c' = c ∧ fs.lookup mn = none then bind (cs env) (fun xs => bind (ck env) fun zs => if xs.length + 1 = n ∧ zs.length = l ∧ (gA (x :: xs) zs).length = k then m (gA (x :: xs) zs) else no) ah else .no
    | _ => .no
  | _ => .no
section
variable {X : Cx} {E : XK} {x mn c : Str} {p apos pos : Pos} {o e : Expr} {es : List Expr} {kws : List Keyword} {co : CE} {cs ck : CA} {j k n : Nat} {Ca : Addr} {ps ks : List Str} {m : List AV → CM AV} {gA : List AV → List AV → List AV} {gV : List V → List V → List V} {pl : Sem Bool}
def tMethK (C : Addr) (mn : Str) (n l : Nat) (sp : Sp) (gV : List V → List V → List V) (E : XK) (to : TE) (t tk : TA) : TE := fun σ H Q => to σ H fun x H1 => ∃ a dx fs, x = .ref a ∧ H1 a = some (.ins C dx fs) ∧ fs.lookup mn = none ∧ t σ H1 fun vs H2 => tk σ H2 fun zs H3 => (V.ref a :: vs).length = n ∧ zs.length = l ∧ sp (gV (.ref a :: vs) zs) H3 Q E
theorem methk_cut {l : Nat} (hm : X.mg c = some (.ref Ca)) (hG : Gives (kc X) gA gV) {σ : L2.St} {H : Hp} {Q : VK} (q : tE (kc X) E (cMethK c mn k n l m gA co cs ck) σ H Q) : tMethK Ca mn n l (spM (kc X) k m) gV E (tE (kc X) E co) (tA (kc X) E cs) (tA (kc X) E ck) σ H Q := by
  obtain ⟨ρ, ah, env, R, RE, q⟩ := q
  refine ⟨ρ, ah, env, R, RE, ?_⟩
  unfold cMethK at q
  cases ha : co env ah with
  | no => simp only [bind, ha] at q; exact q
  | er x ah1 => simp only [bind, ha] at q; exact q
  | ok x ah1 =>
    simp only [bind, ha] at q
    intro ρ1 H1 v e1 R1 r
    replace q := Aft.pre e1 q
    cases x with
    | obj i =>
      obtain ⟨hi, rfl⟩ := r.obj_inv
      dsimp only at q
      split at q
      · rename_i c' fs hx
        split at q
        · rename_i hc
          obtain ⟨rfl, hl⟩ := hc
          obtain ⟨_, Ca', dx, ws, h1, h2, h3⟩ := R1.ins hx
          have : Ca' = Ca := by
            have z := (show (kc X).mg c' = some (.ref Ca') from h1).symm.trans hm
            simpa using z
          subst this
          refine ⟨_, dx, ws, rfl, h2, kvs_lookup_none h3 hl, ρ1, ah1, env, R1, RE.mono e1, ?_⟩
          cases hb : cs env ah1 with
          | no => simp only [hb] at q; exact q
          | er x ah1 => simp only [hb] at q; exact q
          | ok xs ah2 =>
            simp only [hb] at q
            intro ρ2 H2 vs e2 R2 rs
            replace q := Aft.pre e2 q
            refine ⟨ρ2, ah2, env, R2, (RE.mono e1).mono e2, ?_⟩
            cases hk : ck env ah2 with
            | no => simp only [hk] at q; exact q
            | er x ah1 => simp only [hk] at q; exact q
            | ok zs ah3 =>
              simp only [hk] at q
              intro ρ3 H3 us e3 R3 rz
              replace q := Aft.pre e3 q
              split at q
              · rename_i hl
                exact ⟨by rw [List.length_cons, ← rs.length]; exact hl.1, by rw [← rz.length]; exact hl.2.1, ρ3, ah3, gA (.obj i :: xs) zs, R3, hG _ _ _ _ _ _ _ (.cons (r.mono (e2.trans e3)) (rs.mono e3)) rz, hl.2.2, q⟩
              · exact (show False from q).elim
        · exact (show False from q).elim
      · exact (show False from q).elim
    | _ => exact (show False from q).elim
theorem x_methN (F : HasK X.prog X.w X.K X.mg X.base j (c, some mn) ps m n ks gA) (hr : Room k X.A) (hjk : j ≤ k) (hc : Cls X.K (He.ga X.K c)) (hmt : Meth X.K (He.ga X.K c) mn (He.ma X.K (He.ga X.K c) mn)) (hm : X.mg c = some (.ref (He.ga X.K c))) (hx : Passes (L2.CX X.prog X.w) X E)
    (ho : PE X o (tE (kc X) E co)) (ha : PA X (e :: es) (tA (kc X) E cs)) (hkw : PK X kws (tA (kc X) E ck)) (hall : (backToKw pos (keywordEach kws X.env)).all (·.1.isSome) = true := by rfl) (hks : (backToKw pos (keywordEach kws X.env)).filterMap (·.1) = ks := by rfl)
    (hst : starEach (e :: es) X.env = (false, eval e X.env) :: starEach es X.env := by rfl) (hpl : ((backTo pos (starEach (e :: es) X.env)).any (·.1) || (backToKw pos (keywordEach kws X.env)).any (·.1.isNone)) = false := by rfl)
    (ht : eval (.Call (.Attribute o mn apos) (e :: es) kws pos) X.env = (do
      let ov ← eval o X.env
      standAt apos.atName
      let (f, first) ← holding [ov] (getMethod ov mn pl)
      callWith pos f first (backTo pos (starEach (e :: es) X.env)) (backToKw pos (keywordEach kws X.env))) := by rfl) :
    PE X (.Call (.Attribute o mn apos) (e :: es) kws pos) (tE (kc X) E (cMethK c mn ps.length n ks.length m gA co cs ck)) := ⟨fun pins s σ H Q I q0 => by
  obtain ⟨fd, g, gV, F, b, hG, _⟩ := F.ex
  have h := methk_cut hm hG q0
  refine PySem.W.methodCall_KW (pl := pl) (thn (ho.run pins s σ H _ I h) fun u s1 ⟨x, H1, I1, rx, a, dx, fs, ex, ea, l, q⟩ => ?_) ht
  subst ex
  obtain rfl : u = Value.ref a := rx
  refine getmeth_ok I1 ea hc hmt l ?_
  refine PySem.W.callWith_KW (first := [.ref a]) (h₀ := X.base) I.ok.mod.kin hmt.kp hall (thn (ha.run pos pins s1 σ H1 _ I1 q) fun us s2 ⟨vs, H2, I2, r, q2⟩ => thn (hkw.run pos pins s2 σ H2 _ I2 q2) fun ws s3 ⟨zs, H3, I3, rz, l1, l2, q3⟩ => ⟨I3.kIn, ?_⟩) hpl hst
  rw [hks]
  exact run_fnN (us := .ref a :: us) (vs := .ref a :: vs) F (hr.mono hjk) b hx I3 (.cons rfl r) rz l1 l2 q3⟩
theorem x_methK0 (F : HasK X.prog X.w X.K X.mg X.base j (c, some mn) ps m n ks gA) (hr : Room k X.A) (hjk : j ≤ k) (hc : Cls X.K (He.ga X.K c)) (hmt : Meth X.K (He.ga X.K c) mn (He.ma X.K (He.ga X.K c) mn)) (hm : X.mg c = some (.ref (He.ga X.K c))) (hx : Passes (L2.CX X.prog X.w) X E)
    (ho : PE X o (tE (kc X) E co)) (hkw : PK X kws (tA (kc X) E ck)) (hall : (backToKw pos (keywordEach kws X.env)).all (·.1.isSome) = true := by rfl) (hks : (backToKw pos (keywordEach kws X.env)).filterMap (·.1) = ks := by rfl)
    (hpl : ((backTo pos (starEach [] X.env)).any (·.1) || (backToKw pos (keywordEach kws X.env)).any (·.1.isNone)) = false := by rfl)
    (ht : eval (.Call (.Attribute o mn apos) [] kws pos) X.env = (do
      let ov ← eval o X.env
      standAt apos.atName
      let (f, first) ← holding [ov] (getMethod ov mn pl)
      callWith pos f first (backTo pos (starEach [] X.env)) (backToKw pos (keywordEach kws X.env))) := by rfl) :
    PE X (.Call (.Attribute o mn apos) [] kws pos) (tE (kc X) E (cMethK c mn ps.length n ks.length m gA co caNil ck)) := ⟨fun pins s σ H Q I q0 => by
  obtain ⟨fd, g, gV, F, b, hG, _⟩ := F.ex
  have h := methk_cut hm hG q0
  refine PySem.W.methodCall_KW (pl := pl) (thn (ho.run pins s σ H _ I h) fun u s1 ⟨x, H1, I1, rx, a, dx, fs, ex, ea, l, q⟩ => ?_) ht
  subst ex
  obtain rfl : u = Value.ref a := rx
  refine getmeth_ok I1 ea hc hmt l ?_
  obtain ⟨ρ, ah, env, R, RE, q⟩ := q
  have q := AftA.here R q (.nil : RVs (kc X) ρ ah.length H1 [] [])
  refine PySem.W.callWith_KW0 (first := [.ref a]) (h₀ := X.base) I.ok.mod.kin hmt.kp hall (thn (hkw.run pos pins s1 σ H1 _ I1 q) fun ws s3 ⟨zs, H3, I3, rz, l1, l2, q3⟩ => ⟨I3.kIn, ?_⟩) hpl
  rw [hks]
  exact run_fnN (us := [.ref a]) (vs := [.ref a]) F (hr.mono hjk) b hx I3 (.cons rfl .nil) rz l1 l2 q3⟩
end
/-! ### C.m(..), m a classmethod -/
structure HasC (P : Program) (w : World) (K : PySem.W.Frag) (mg : Str → Option Value) (base : Heap) (k : Nat) (c mn : Str) (ps : List Str) (m : List AV → CM AV) (n : Nat) (ks : List Str) (gA : List AV → List AV → List AV) : Prop where
  ex : ∃ fd g gV, FnOk P w K mg base (L2.CX P w) k (cmAd K c mn) fd ps (spM ⟨K, mg⟩ ps.length m) ∧ KBn K fd ps n ks g gV ∧ Gives ⟨K, mg⟩ gA gV
structure ClsM (K : PySem.W.Frag) (c mn : Str) : Prop where
  rd : ClX.CRead K (He.ga K c) (.type "type")
  cm : ClX.CMet K (He.ga K c) (.type "type") mn (He.ma K (He.ga K c) mn) (cmAd K c mn)
def cCMeth (c : Str) (k n l : Nat) (m : List AV → CM AV) (gA : List AV → List AV → List AV) (cs ck : CA) : CE := fun env => bind (cs env) fun xs => bind (ck env) fun zs => if xs.length + 1 = n ∧ zs.length = l ∧ (gA (.glo c :: xs) zs).length = k then m (gA (.glo c :: xs) zs) else no
section
variable {X : Cx} {E : XK} {x mn c : Str} {p apos pos : Pos} {o e : Expr} {es : List Expr} {kws : List Keyword} {co : CE} {cs ck : CA} {j k n : Nat} {Ca : Addr} {ps ks : List Str} {m : List AV → CM AV} {gA : List AV → List AV → List AV} {gV : List V → List V → List V} {pl : Sem Bool}
theorem cmeth_cut {l : Nat} (hm : X.mg c = some (.ref Ca)) (hG : Gives (kc X) gA gV) {σ : L2.St} {H : Hp} {Q : VK} (q : tE (kc X) E (cCMeth c k n l m gA cs ck) σ H Q) : tA (kc X) E cs σ H fun vs H2 => tA (kc X) E ck σ H2 fun zs H3 => (V.ref Ca :: vs).length = n ∧ zs.length = l ∧ spM (kc X) k m (gV (.ref Ca :: vs) zs) H3 Q E := by
  obtain ⟨ρ, ah, env, R, RE, q⟩ := q
  refine ⟨ρ, ah, env, R, RE, ?_⟩
  unfold cCMeth at q
  cases hb : cs env ah with
  | no => simp only [bind, hb] at q; exact q
  | er x ah1 => simp only [bind, hb] at q; exact q
  | ok xs ah2 =>
    simp only [bind, hb] at q
    intro ρ2 H2 vs e2 R2 rs
    replace q := Aft.pre e2 q
    refine ⟨ρ2, ah2, env, R2, RE.mono e2, ?_⟩
    cases hk : ck env ah2 with
    | no => simp only [hk] at q; exact q
    | er x ah1 => simp only [hk] at q; exact q
    | ok zs ah3 =>
      simp only [hk] at q
      intro ρ3 H3 us e3 R3 rz
      replace q := Aft.pre e3 q
      split at q
      · rename_i hl
        exact ⟨by rw [List.length_cons, ← rs.length]; exact hl.1, by rw [← rz.length]; exact hl.2.1, ρ3, ah3, gA (.glo c :: xs) zs, R3, hG _ _ _ _ _ _ _ (.cons (.glo hm) (rs.mono e3)) rz, hl.2.2, q⟩
      · exact (show False from q).elim
theorem run_cmN {CXp : CXT} {g : List Value → List Value → List Value} {q f C : Addr} {fd : FuncData} {sp : Sp} {Q : VK} {pins : List (Addr × Obj)} {σ : L2.St} {H : Hp} {s : Shared} {us ws : List Value} {vs zs : List V} (F : FnOk X.prog X.w X.K X.mg X.base CXp k f fd ps sp) (hr : Room k X.A) (b : KBn X.K fd ps n ks g gV) (hx : Passes CXp X E) (I : Inv X ((q, PySem.W.methodObj (.ref f) (.ref C)) :: pins) σ H s)
    (r : Vals vs us) (rz : Vals zs ws) (l1 : (V.ref C :: vs).length = n) (l2 : zs.length = ks.length) (h : sp (gV (.ref C :: vs) zs) H Q E) : wpAny (model X.prog X.w) X.A (call (.ref q) us (ks.zip ws)) (EP X pins σ Q) X.xe s := by
  have r1 : Vals (V.ref C :: vs) (Value.ref C :: us) := .cons rfl r
  have z : wpAny (model X.prog X.w) X.A (call (.ref q) us (ks.zip ws)) (EP X ((q, PySem.W.methodObj (.ref f) (.ref C)) :: pins) σ Q) X.xe s := by
    refine wpAny_call (PySem.W.method_call (ClX.pin_at I) (codeAny_mono (F.run X.A X.stack s H ⟨.ref C :: us, ks.zip ws⟩ (g (.ref C :: us) ws) (gV (.ref C :: vs) zs) Q E hr I.env0 (b.to s _ ws I.kIn (r1.length.symm.trans l1) (rz.length.symm.trans l2)) (b.rel r1 rz) h) fun r s' hq => ?_))
    cases r with
    | error e => exact hx _ σ H s e s' I hq
    | ok fl => cases fl with
      | ret u => exact I.after hq
      | _ => exact False.elim hq
  exact thn z fun _ _ y => ClX.unpinE y
theorem x_cmethN (F : HasC X.prog X.w X.K X.mg X.base j c mn ps m n ks gA) (hr : Room k X.A) (hjk : j ≤ k) (M : ClsM X.K c mn) (hm : X.mg c = some (.ref (He.ga X.K c))) (hx : Passes (L2.CX X.prog X.w) X E) (ha : PA X (e :: es) (tA (kc X) E cs)) (hkw : PK X kws (tA (kc X) E ck)) (hg : Gl X c := by rfl)
    (hall : (backToKw pos (keywordEach kws X.env)).all (·.1.isSome) = true := by rfl) (hks : (backToKw pos (keywordEach kws X.env)).filterMap (·.1) = ks := by rfl) (hd : (c == ("__debug__" : Str)) = false := by decide)
    (hst : starEach (e :: es) X.env = (false, eval e X.env) :: starEach es X.env := by rfl) (hpl : ((backTo pos (starEach (e :: es) X.env)).any (·.1) || (backToKw pos (keywordEach kws X.env)).any (·.1.isNone)) = false := by rfl)
    (ht : eval (.Call (.Attribute (.Name c p) mn apos) (e :: es) kws pos) X.env = (do
      let ov ← eval (.Name c p) X.env
      standAt apos.atName
      let (f, first) ← holding [ov] (getMethod ov mn pl)
      callWith pos f first (backTo pos (starEach (e :: es) X.env)) (backToKw pos (keywordEach kws X.env))) := by rfl) :
    PE X (.Call (.Attribute (.Name c p) mn apos) (e :: es) kws pos) (tE (kc X) E (cCMeth c ps.length n ks.length m gA cs ck)) := ⟨fun pins s σ H Q I q0 => by
  obtain ⟨fd, g, gV, F, b, hG⟩ := F.ex
  have h := cmeth_cut hm hG q0
  refine PySem.W.methodCall_KW (pl := pl) (ld_glob I hg hm (ClX.getmethcm_ok I M.rd M.cm fun s2 I2 => ?_) hd) ht
  refine PySem.W.callWith_of (P := PySem.W.MethP X.K s.heap.objs.size (cmAd X.K c mn) (.ref (He.ga X.K c))) hpl (PySem.W.keeps_M M.cm.fi) (PyProof.Rows.evalArgs_kw2 hall (thn (ha.run pos _ s2 σ H _ I2 h) fun us s3 ⟨vs, H2, I3, r, q2⟩ => thn (hkw.run pos _ s3 σ H2 _ I3 q2) fun ws s4 ⟨zs, H3, I4, rz, l1, l2, q3⟩ => ⟨⟨ClX.pin_at I4, I4.kIn⟩, ?_⟩) hst)
  rw [hks]
  exact run_cmN F (hr.mono hjk) b hx I4 r rz l1 l2 q3⟩
theorem x_cmethK0 (F : HasC X.prog X.w X.K X.mg X.base j c mn ps m n ks gA) (hr : Room k X.A) (hjk : j ≤ k) (M : ClsM X.K c mn) (hm : X.mg c = some (.ref (He.ga X.K c))) (hx : Passes (L2.CX X.prog X.w) X E) (hkw : PK X kws (tA (kc X) E ck)) (hg : Gl X c := by rfl)
    (hall : (backToKw pos (keywordEach kws X.env)).all (·.1.isSome) = true := by rfl) (hks : (backToKw pos (keywordEach kws X.env)).filterMap (·.1) = ks := by rfl) (hd : (c == ("__debug__" : Str)) = false := by decide)
    (hpl : ((backTo pos (starEach [] X.env)).any (·.1) || (backToKw pos (keywordEach kws X.env)).any (·.1.isNone)) = false := by rfl)
    (ht : eval (.Call (.Attribute (.Name c p) mn apos) [] kws pos) X.env = (do
      let ov ← eval (.Name c p) X.env
      standAt apos.atName
      let (f, first) ← holding [ov] (getMethod ov mn pl)
      callWith pos f first (backTo pos (starEach [] X.env)) (backToKw pos (keywordEach kws X.env))) := by rfl) :
    PE X (.Call (.Attribute (.Name c p) mn apos) [] kws pos) (tE (kc X) E (cCMeth c ps.length n ks.length m gA caNil ck)) := ⟨fun pins s σ H Q I q0 => by
  obtain ⟨fd, g, gV, F, b, hG⟩ := F.ex
  have h := cmeth_cut hm hG q0
  refine PySem.W.methodCall_KW (pl := pl) (ld_glob I hg hm (ClX.getmethcm_ok I M.rd M.cm fun s2 I2 => ?_) hd) ht
  obtain ⟨ρ, ah, env, R, RE, q⟩ := h
  have q := AftA.here R q (.nil : RVs (kc X) ρ ah.length H [] [])
  refine PySem.W.callWith_of (P := PySem.W.MethP X.K s.heap.objs.size (cmAd X.K c mn) (.ref (He.ga X.K c))) hpl (PySem.W.keeps_M M.cm.fi) (PyProof.Rows.evalArgs_kw2_nil hall (thn (hkw.run pos _ s2 σ H _ I2 q) fun ws s4 ⟨zs, H3, I4, rz, l1, l2, q3⟩ => ⟨⟨ClX.pin_at I4, I4.kIn⟩, ?_⟩))
  rw [hks]
  exact run_cmN (us := []) (vs := []) F (hr.mono hjk) b hx I4 .nil rz l1 l2 q3⟩
/-- x(e, ..) where the local x holds the class c -/
def cMakeL (i : Nat) (c : Str) (n : Nat) (m : List AV → CM AV) (cs : CA) : CE := fun env ah => match env[i]? with
  | some (some (.glo c')) => if c' = c then cMake c n m [] cs env ah else .no
  | _ => .no
theorem x_makeL (i : Nat) (F : Has X.prog X.w X.K X.mg X.base j (c, some "__init__") ps m) (hr : Room k X.A) (hjk : j + 1 ≤ k) (M : Mk X.K (He.ga X.K c) (He.ma X.K (He.ga X.K c) "__init__")) (hm : X.mg c = some (.ref (He.ga X.K c))) (hx : Passes (L2.CX X.prog X.w) X E)
    (ha : PA X (e :: es) (tA (kc X) E cs)) (hN : X.N[i]? = some x := by rfl) (hv : Vis X.env.scope x := by first | exact Or.inl rfl | exact Or.inr (Or.inl rfl) | exact Or.inr (Or.inr rfl)) (hdb : (x == ("__debug__" : Str)) = false := by decide) (hcd : (x == ("__classdict__" : Str)) = false := by decide)
    (he : starEach (e :: es) X.env = (false, eval e X.env) :: starEach es X.env := by rfl) (hpl : (backTo pos (starEach es X.env)).any (·.1) = false := by rfl) :
    PE X (.Call (.Name x p) (e :: es) [] pos) (tE (kc X) E (cMakeL i c ps.length m cs)) := ⟨fun pins s σ H Q I ⟨ρ, ah, env, R, RE, q⟩ => by
  obtain ⟨fd, F, b, _⟩ := F.ex
  unfold cMakeL at q
  split at q
  · rename_i c' hi
    split at q
    · rename_i hc
      subst hc
      obtain ⟨v, h1, h2⟩ := RE.2 i _ hi
      have hv2 : v = .ref (He.ga X.K c') := by
        cases h2 with
        | glo z =>
          have e := (show X.mg c' = _ from z).symm.trans hm
          simpa using e
      subst hv2
      have q2 : tA (kc X) E cs σ H fun vs H1 => ∀ y dx, H1 y = none → H1 dx = none → dx ≠ y → spM (kc X) ps.length m (.ref y :: vs) (upd (upd H1 dx (.own y)) y (.ins (He.ga X.K c') dx [])) (fun v H2 => v = .non ∧ Q (.ref y) H2) E := by
        refine ⟨ρ, ah, env, R, RE, ?_⟩
        unfold cMake bind at q
        cases hh : cs env ah with
        | no => rw [hh] at q; exact q
        | er x ah1 => rw [hh] at q; exact q
        | ok xs ah1 =>
          rw [hh] at q
          intro ρ1 H1 vs e1 R1 rs
          replace q := Aft.pre e1 q
          dsimp only at q
          rw [List.append_nil] at q
          exact make_cut R1 rs hm q
      refine wpAny_Call_Name_kw (thn ((pe_var (pos := p) hN hv hdb hcd).run pins s σ H (fun v H1 => v = .ref (He.ga X.K c') ∧ H1 = H) I ⟨_, h1, rfl, rfl⟩) fun u s1 ⟨v, H1, I1, r1, q1⟩ => ?_)
      obtain ⟨rfl, rfl⟩ := q1
      cases (show u = Value.ref _ from r1)
      refine PySem.W.callWith_K (h₀ := X.base) I.ok.mod.kin M.kp (thn (ha.run pos pins s1 σ _ _ I1 q2) fun us s2 ⟨vs, H2, I2, r, q3⟩ => ⟨I2.kIn, ?_⟩) he hpl
      exact run_make (dvs := []) (ds := []) M F (hr.mono hjk) b .nil hx I2 r (by simpa using q3)
    · exact (show False from q).elim
  · exact (show False from q).elim⟩
end
end Sm

set_option Elab.async false
set_option linter.all false
set_option maxRecDepth 100000
set_option maxHeartbeats 4000000
namespace Sm
open PySem PySem.Spec PyProof.Rows L2

/-! ### the head's facts, over what the names and the statics reach -/
theorem obsY_eq {n : Nat} {fa : List He.Fa} {fn : List He5.DefA} {ex : PySem.W.Frag → Bool} {g : Addr → Option Obj} {s : Shared} (h : ∀ a, g a = s.heap.get? a) : obsY n fa fn ex g = (hookY n fa fn ex).obs s := by
  have e : g = s.heap.get? := funext h
  rw [e] <;> rfl
theorem adrTup_ok {K : PySem.W.Frag} {mg : Str → Option Value} {a : Addr} {xs : List AV} (h : adrTup K a xs = true) : ∃ vs, (∀ H, SqN K H a vs) ∧ RDs ⟨K, mg⟩ xs vs := by
  unfold adrTup at h
  split at h
  · rename_i vs c its n sl h1 h2
    obtain ⟨a, b⟩ := He.ba h
    obtain ⟨b, d⟩ := He.ba b
    have hc := of_decide_eq_true a
    subst hc
    exact ⟨vs, fun H => .inr ⟨_, its, n, h2, rfl, rfl, rfl, of_decide_eq_true b, He.relAll_ok d⟩, flat_rd h1⟩
  · cases h
/-- defaults, one by one -/
theorem rds_tup {C : KC} {a : Addr} {xs : List AV} {da : List AV} {dvs : List V} (h : ∃ vs, (∀ H, SqN C.K H a vs) ∧ RDs C xs vs) (r : RDs C da dvs) : RDs C (.tup xs :: da) (.ref a :: dvs) := by
  obtain ⟨vs, h1, h2⟩ := h
  exact fun ρ n H => .cons (.tup (h1 H) (h2 ρ n H)) (r ρ n H)
theorem rds_cons {C : KC} {x : AV} {v : V} {da : List AV} {dvs : List V} (h : ∀ ρ n H, RV C ρ n H x v) (r : RDs C da dvs) : RDs C (x :: da) (v :: dvs) := fun ρ n H => .cons (h ρ n H) (r ρ n H)
theorem ownStr_ok {K : PySem.W.Frag} {c : Str} (h : ownStrB K c = true) : OwnStr K c := by
  obtain ⟨h1, h2⟩ := He.ba h
  exact ⟨He.eqO_ok h1, h2⟩
theorem ownEq_ok {K : PySem.W.Frag} {c : Str} (h : ownEqB K c = true) : OwnEq K c := by
  obtain ⟨h1, h2⟩ := He.ba h
  obtain ⟨h2, h3⟩ := He.ba h2
  obtain ⟨h3, h4⟩ := He.ba h3
  exact ⟨He.eqO_ok h1, h2, He.eqO_ok h3, of_decide_eq_true h4⟩
theorem clsM_ok {K : PySem.W.Frag} {c m : Str} (h : clsMB K c m = true) : ClsM K c m := by
  obtain ⟨h1, h2⟩ := He.ba h
  obtain ⟨h2, h3⟩ := He.ba h2
  obtain ⟨h3, h4⟩ := He.ba h3
  exact ⟨⟨h1, of_decide_eq_true h2⟩, He5.cmet_of h3 h4⟩
/-- a def with its mirror and how it binds -/
structure FnJ (P : Program) (w : World) (K : PySem.W.Frag) (mg : Str → Option Value) (base : Heap) (k : Nat) (ad : Addr) (x qual : Str) (params : Arguments) (body : List Stmt) (scope : Scope) (dvs : List V) (ps : List Str) (m : List AV → CM AV) : Prop where
  ex : ∃ fd, FunD K x qual params body scope dvs [] ad fd ∧ FnOk P w K mg base (L2.CX P w) k ad fd ps (spM ⟨K, mg⟩ ps.length m)
section
variable {P : Program} {w : World} {K : PySem.W.Frag} {mg : Str → Option Value} {base : Heap} {k : Nat} {c mn : Str} {at_ : Str × Option Str} {x qual : Str} {params : Arguments} {body : List Stmt} {scope : Scope} {dvs : List V} {ps : List Str} {m : List AV → CM AV}
theorem FnJ.has0 (J : FnJ P w K mg base k (He.fAd K at_) x qual params body scope [] ps m)
    (h : ∀ (kV doc pm : Value) (an : Option Addr) (cdv ct : Value) (us : List Value), us.length = ps.length → bindArgs (PySem.W.fnOf x qual params body scope .none kV doc pm an cdv ct) ⟨us, []⟩ = pure (ps.zip us)) : Has P w K mg base k at_ ps m := by
  obtain ⟨fd, F, O⟩ := J.ex
  exact ⟨fd, O, FunD.bindsN F h, F.kp⟩
theorem FnJ.hasD (J : FnJ P w K mg base k (He.fAd K at_) x qual params body scope dvs ps m) (b : ∀ fd, FunD K x qual params body scope dvs [] (He.fAd K at_) fd → Binds K fd ps []) : Has P w K mg base k at_ ps m := by
  obtain ⟨fd, F, O⟩ := J.ex
  exact ⟨fd, O, b fd F, F.kp⟩
theorem FnJ.hasK (J : FnJ P w K mg base k (He.fAd K at_) x qual params body scope dvs ps m) {n : Nat} {ks : List Str} {sel : List Sel} {da : List AV} (r : RDs ⟨K, mg⟩ da dvs)
    (b : ∀ fd, FunD K x qual params body scope dvs [] (He.fAd K at_) fd → ∃ its : List Value, KBn K fd ps n ks (fun us ws => gSel sel us ws its) (fun vs zs => gSel sel vs zs dvs)) : HasK P w K mg base k at_ ps m n ks (selA sel da) := by
  obtain ⟨fd, F, O⟩ := J.ex
  obtain ⟨its, kb⟩ := b fd F
  exact ⟨fd, _, _, O, kb, gives_sel r, F.kp⟩
theorem FnJ.hasC (J : FnJ P w K mg base k (cmAd K c mn) x qual params body scope dvs ps m) {n : Nat} {ks : List Str} {sel : List Sel} {da : List AV} (r : RDs ⟨K, mg⟩ da dvs)
    (b : ∀ fd, FunD K x qual params body scope dvs [] (cmAd K c mn) fd → ∃ its : List Value, KBn K fd ps n ks (fun us ws => gSel sel us ws its) (fun vs zs => gSel sel vs zs dvs)) : HasC P w K mg base k c mn ps m n ks (selA sel da) := by
  obtain ⟨fd, F, O⟩ := J.ex
  obtain ⟨its, kb⟩ := b fd F
  exact ⟨fd, _, _, O, kb, gives_sel r⟩
theorem kbn_no1 {f : Addr} {fd : FuncData} {n : Nat} {ks : List Str} {sel : List Sel} (F : FunD K x qual params body scope [] [] f fd)
    (h : ∀ (kV doc pm : Value) (an : Option Addr) (cdv ct : Value) (us ws : List Value), us.length = n → ws.length = ks.length → bindArgs (PySem.W.fnOf x qual params body scope .none kV doc pm an cdv ct) ⟨us, ks.zip ws⟩ = pure (ps.zip (gSel sel us ws []))) :
    ∃ its : List Value, KBn K fd ps n ks (fun us ws => gSel sel us ws its) (fun vs zs => gSel sel vs zs []) := ⟨[], kbn_no F n ks sel h⟩
end
end Sm
namespace Sm
open PySem PySem.Spec PyProof.Rows L2
theorem e_gint {X : Cx} {E : XK} {x : Str} {i : Int} {pos : Pos} (hm : ∃ t, X.mg x = some (.int i t)) (hg : Gl X x := by rfl) (hd : (x == ("__debug__" : Str)) = false := by decide) : PE X (.Name x pos) (tE (kc X) E (cC (.int i))) := by
  obtain ⟨t, hm⟩ := hm
  exact e_c (pe_glob hg hm (v := .int i) ⟨t, rfl⟩ hd) fun _ _ _ => .int i
end Sm

set_option Elab.async false
set_option linter.all false
set_option maxRecDepth 100000
set_option maxHeartbeats 4000000
namespace Sm
open PySem PySem.Spec PyProof.Rows L2

/-! ### what is dealt out of a script, and what is drawn -/
def cDeal : CS :=
  (cSeq (cAsg (cOp addM (cC (.int 86028157)) (cOp mulM (cC (.int 47)) (cVar 1))) (gNam 2))
  (cSeq (cAsg (cLc (iAny (cSl (cVar 0) (cPart (cVar 1)) (cPart (cC (.int 58))))) (gNam 4) cYes (cB absM (caCons (cB intM (caCons (cVar 4) caNil)) caNil)) [4]) (gNam 3))
  (cSeq (cFor (iAny (cVar 3)) (gNam 4) (cAsg (cOp modM (cB intM (caCons (cOp addM (cOp addM (cOp mulM (cVar 2) (cC (.int 48271))) (cOp modM (cB intM (caCons (cVar 4) caNil)) (cC (.int 2147483477)))) (cC (.int 13))) caNil)) (cC (.int 2147483647))) (gNam 2)))
  (cRet (cLst (caCons (cRevL (cLc (iAny (cVar 3)) (gNam 4) (cTest (cOp (cmpM fun i j => decide (j ≤ i)) (cVar 4) (cOp powM (cC (.int 10)) (cC (.int 18))))) (cVar 4) [4])) (caCons (cVar 2) caNil)))))))
def cDraw : CS :=
  (cSeq (cWhile (cAnd (cTest (cOp (eqM true) (cOp idxDM (cVar 0) (cC (.int 0))) (cLst caNil))) (cTest (cOp (eqM false) (cOp idxDM (cOp idxDM (cVar 0) (cC (.int 0))) (cNeg (cC (.int 1)))) (cC (.int 0))))) (cDrop (cM "list" popM (cOp idxDM (cVar 0) (cC (.int 0))) caNil)))
  (cSeq (cWhen (cTest (cOp (eqM true) (cOp idxDM (cVar 0) (cC (.int 0))) (cLst caNil))) (cSeq (cAsg (cM "list" popM (cOp idxDM (cVar 0) (cC (.int 0))) caNil) (gNam 2))
  (cSeq (cDrop (cM "list" (appM) (cOp idxDM (cVar 0) (cC (.int 0))) (caCons (cOp fdivM (cVar 2) (cVar 1)) caNil)))
  (cRet (cOp modM (cB intM (caCons (cVar 2) caNil)) (cVar 1))))) cNext)
  (cSeq (cAsg (cOp modM (cB intM (caCons (cOp addM (cOp mulM (cOp idxDM (cVar 0) (cC (.int 1))) (cC (.int 48271))) (cC (.int 61))) caNil)) (cC (.int 2147483647))) (gIx (cVar 0) (cC (.int 1))))
  (cRet (cOp modM (cB intM (caCons (cOp fdivM (cOp idxDM (cVar 0) (cC (.int 1))) (cC (.int 32))) caNil)) (cVar 1))))))

theorem new_at {ah : AH} {o : AO} : (ah ++ [o])[ah.length]? = some o := by simp
theorem old_at {ah : AH} {o p : AO} {i : Nat} (h : ah[i]? = some o) : (ah ++ [p])[i]? = some o := by
  rw [List.getElem?_append_left (List.getElem?_eq_some_iff.mp h).1]
  exact h
theorem lstAt_of {ah : AH} {n : Nat} {xs : List AV} (h : ah[n]? = some (.lst xs)) : lstAt ah n = some xs := by simp [lstAt, h]
theorem lc_ints {n k : Nat} {t : CT} {c : CE} {env : AEnv} {ah : AH} {L : List Int} {g : Int → Int} {p : Int → Bool}
    (hc : ∀ j, c (env.set k (some (.int j))) ah = .ok (.int (g j)) ah) (ht : ∀ j, t (env.set k (some (.int j))) ah = .ok (p j) ah) (hL : lstAt ah n = some (L.map AV.int)) :
    ∀ (f i : Nat) (acc : List AV), L.length < f + i → i ≤ L.length → lcL (liL n) (gNam k) t c env f i acc ah = .ok (.obj ah.length) (ah ++ [.lst (acc ++ (((L.drop i).filter p).map g).map AV.int)])
  | 0, i, acc, h, h2 => by omega
  | f + 1, i, acc, h, h2 => by
    by_cases hi : i < L.length
    · have e : L.drop i = L[i] :: L.drop (i + 1) := by rw [List.drop_eq_getElem_cons hi]
      have r1 := lc_ints hc ht hL f (i + 1) (acc ++ [.int (g L[i])]) (by omega) hi
      have r2 := lc_ints hc ht hL f (i + 1) acc (by omega) hi
      simp only [lcL, liL, hL, List.getElem?_map, List.getElem?_eq_getElem hi, Option.map_some, gNam, ht, e, List.filter_cons]
      cases p L[i] with
      | true => simp only [hc, r1, if_true, List.map_cons, List.append_assoc, List.cons_append, List.nil_append]
      | false => simp only [r2, Bool.false_eq_true, if_false]
    · have e : L.drop i = [] := List.drop_eq_nil_of_le (Nat.le_of_not_lt hi)
      have e2 : L[i]? = none := List.getElem?_eq_none (Nat.le_of_not_lt hi)
      simp [lcL, liL, hL, e2, e]

def stOk (i : Int) : Prop := 0 ≤ i ∧ i < 2147483647
theorem log_le {a : Int} {k : Nat} (h : a.natAbs < 2 ^ k) : a.natAbs.log2 ≤ k := by
  by_cases z : a.natAbs = 0
  · rw [z]; simp
  · exact Nat.le_of_lt ((Nat.log2_lt z).mpr h)
theorem stOk.log {i : Int} (h : stOk i) : i.natAbs.log2 ≤ 31 := log_le (by have h1 := h.1; have h2 := h.2; omega)
theorem stOk.mod (i : Int) : stOk (i % 2147483647) := ⟨Int.emod_nonneg _ (by decide), Int.emod_lt_of_pos _ (by decide)⟩
theorem stir_step {env : AEnv} {ah : AH} {st j : Int} (h2 : env[2]? = some (some (.int st))) (h4 : env[4]? = some (some (.int j))) (hs : st.natAbs.log2 ≤ 100) :
    (cAsg (cOp modM (cB intM (caCons (cOp addM (cOp addM (cOp mulM (cVar 2) (cC (.int 48271))) (cOp modM (cB intM (caCons (cVar 4) caNil)) (cC (.int 2147483477)))) (cC (.int 13))) caNil)) (cC (.int 2147483647))) (gNam 2)) env ah
      = .nx (env.set 2 (some (.int ((st * 48271 + j % 2147483477 + 13) % 2147483647)))) ah := by
  have k : st.natAbs.log2 + Nat.log2 48271 < 1000000 := by
    have : Nat.log2 48271 < 100 := by decide
    omega
  simp [cAsg, cOp, cB, caCons, caNil, Sm.bind, Sm.ret, cVar, cC, mulM, addM, intM, modM, gNam, h2, h4, k]
theorem stir_loop {n : Nat} {ah : AH} {L : List Int} {s b : Option AV} (hL : lstAt ah n = some (L.map AV.int)) :
    ∀ (f i : Nat) (st : Int) (c : Option AV), L.length < f + i → i ≤ L.length → st.natAbs.log2 ≤ 100 → (stOk st ∨ i < L.length) → ∃ st' c', stOk st' ∧
      forL (liL n) (gNam 4) (cAsg (cOp modM (cB intM (caCons (cOp addM (cOp addM (cOp mulM (cVar 2) (cC (.int 48271))) (cOp modM (cB intM (caCons (cVar 4) caNil)) (cC (.int 2147483477)))) (cC (.int 13))) caNil)) (cC (.int 2147483647))) (gNam 2)) f i [s, b, some (.int st), some (.obj n), c] ah
        = .nx [s, b, some (.int st'), some (.obj n), c'] ah
  | 0, i, st, c, h, h2, hs, ho => by omega
  | f + 1, i, st, c, h, h2, hs, ho => by
    by_cases hi : i < L.length
    · have hm : stOk ((st * 48271 + L[i] % 2147483477 + 13) % 2147483647) := stOk.mod _
      obtain ⟨st', c', r1, r2⟩ := stir_loop (s := s) (b := b) hL f (i + 1) ((st * 48271 + L[i] % 2147483477 + 13) % 2147483647) (some (.int L[i])) (by omega) hi (Nat.le_trans hm.log (by omega)) (.inl hm)
      refine ⟨st', c', r1, ?_⟩
      rw [← r2]
      have e := stir_step (env := [s, b, some (.int st), some (.obj n), some (.int L[i])]) (ah := ah) (st := st) (j := L[i]) rfl rfl hs
      simp only [forL, liL, hL, List.getElem?_map, List.getElem?_eq_getElem hi, Option.map_some, gNam, List.set_cons_succ, List.set_cons_zero]
      simp only [List.set_cons_succ, List.set_cons_zero, gNam] at e
      rw [e]
    · have e2 : L[i]? = none := List.getElem?_eq_none (Nat.le_of_not_lt hi)
      refine ⟨st, c, ho.elim id fun z => absurd z hi, ?_⟩
      simp [forL, liL, hL, e2]

def mDeal : List AV → CM AV := cFn 5 cDeal
def mDraw : List AV → CM AV := cFn 3 cDraw
/-- what a deal is: a list of a list of ints, none below 0, and of an int -/
structure DealAt (ah : AH) (d l : Nat) (is : List Int) (st : Int) : Prop where
  at_ : ah[d]? = some (.lst [.obj l, .int st])
  of_ : ah[l]? = some (.lst (is.map AV.int))
  ok : stOk st
  len : is.length ≤ 1000
theorem DealAt.ne {ah : AH} {d l : Nat} {is : List Int} {st : Int} (h : DealAt ah d l is st) : d ≠ l := by
  rintro rfl
  have := h.at_.symm.trans h.of_
  cases is with
  | nil => simp at this
  | cons a r => simp at this
/-- all else stays -/
def DFr (ah ah' : AH) (d l : Nat) : Prop := ∀ i o, i ≠ d → i ≠ l → ah[i]? = some o → ah'[i]? = some o
theorem DFr.refl {ah : AH} {d l : Nat} : DFr ah ah d l := fun _ _ _ _ h => h
theorem DFr.trans {ah ah1 ah2 : AH} {d l : Nat} (a : DFr ah ah1 d l) (b : DFr ah1 ah2 d l) : DFr ah ah2 d l := fun i o h1 h2 h => b i o h1 h2 (a i o h1 h2 h)
theorem DFr.new {ah : AH} {d l : Nat} {o : AO} : DFr ah (ah ++ [o]) d l := fun _ _ _ _ h => old_at h
theorem DFr.putL {ah : AH} {d l : Nat} {o : AO} : DFr ah (ah.set l o) d l := fun i o' _ h2 h => by rw [List.getElem?_set_ne (Ne.symm h2)]; exact h
theorem DFr.putD {ah : AH} {d l : Nat} {o : AO} : DFr ah (ah.set d o) d l := fun i o' h1 _ h => by rw [List.getElem?_set_ne (Ne.symm h1)]; exact h
theorem abs_eq (j : Int) : (if j < 0 then -j else j) = (j.natAbs : Int) := by split <;> omega
theorem deal_ok {ah : AH} (xs : List Int) (b : Int) (hb : 0 ≤ b) (hb2 : b ≤ 1000) : ∃ ah' d l is st, mDeal [.fl xs, .int b] ah = .ok (.obj d) ah' ∧ DealAt ah' d l is st := by
  have hm : Nat.log2 47 + b.natAbs.log2 < 1000000 := by
    have h1 : Nat.log2 47 < 100 := by decide
    have h2 : b.natAbs.log2 ≤ 31 := log_le (by omega)
    omega
  have hst : stOk (86028157 + 47 * b) := ⟨by omega, by omega⟩
  let ys : List Int := (xs.drop (HT.sIx xs.length 0 (some b))).take (HT.sIx xs.length xs.length (some 58) - HT.sIx xs.length 0 (some b))
  have hys : ys.length ≤ 58 := by
    have : HT.sIx xs.length xs.length (some 58) ≤ 58 := by
      have e := HT.sIx_nat xs.length xs.length 58
      rw [show ((58 : Nat) : Int) = 58 from rfl] at e
      rw [e]
      exact Nat.min_le_left _ _
    simp only [ys, List.length_take]
    omega
  have ecut : cutA (xs.map AV.int) (some b) (some 58) = ys.map AV.int := by
    simp only [cutA, ys, List.length_map, List.map_take, List.map_drop]
  have s0 : ([AV.fl xs, AV.int b].map some ++ List.replicate (5 - [AV.fl xs, AV.int b].length) none : AEnv) = [some (.fl xs), some (.int b), none, none, none] := rfl
  let A1 : AH := ah ++ [.lst (ys.map AV.int)]
  have hA1 : lstAt A1 ah.length = some (ys.map AV.int) := lstAt_of new_at
  let zs : List Int := ((ys.drop 0).filter fun _ => true).map fun j => (j.natAbs : Int)
  let A2 : AH := A1 ++ [.lst (zs.map AV.int)]
  have hA2 : lstAt A2 A1.length = some (zs.map AV.int) := lstAt_of new_at
  have hzs : zs.length ≤ 58 := by
    simp only [zs, List.length_map, List.drop_zero]
    exact Nat.le_trans (List.length_filter_le _ _) hys
  have L1 := lc_ints (k := 4) (t := cYes) (c := cB absM (caCons (cB intM (caCons (cVar 4) caNil)) caNil)) (env := [some (.fl xs), some (.int b), some (.int (86028157 + 47 * b)), none, none]) (ah := A1) (L := ys) (g := fun j => (j.natAbs : Int)) (p := fun _ => true)
    (fun j => by simp [cB, caCons, caNil, Sm.bind, Sm.ret, cVar, absM, intM, abs_eq]) (fun j => rfl) hA1 FUEL 0 [] (by show _ < 100000 + 0; omega) (Nat.zero_le _)
  obtain ⟨st', c', r1, r2⟩ := stir_loop (s := some (AV.fl xs)) (b := some (AV.int b)) hA2 FUEL 0 (86028157 + 47 * b) none (by show _ < 100000 + 0; omega) (Nat.zero_le _) (Nat.le_trans hst.log (by omega)) (.inl hst)
  have L2 := fun st'' : AV => lc_ints (k := 4) (t := cTest (cOp (cmpM fun i j => decide (j ≤ i)) (cVar 4) (cOp powM (cC (.int 10)) (cC (.int 18))))) (c := cVar 4) (env := [some (.fl xs), some (.int b), some st'', some (.obj A1.length), none]) (ah := A2) (L := zs) (g := fun j => j) (p := fun j => decide (10 ^ 18 ≤ j))
    (fun j => by simp [cVar]) (fun j => by simp [cTest, cOp, Sm.bind, Sm.ret, cVar, cC, cmpM, powM]) hA2 FUEL 0 [] (by show _ < 100000 + 0; omega) (Nat.zero_le _)
  let us : List Int := (((zs.drop 0).filter fun j => decide (10 ^ 18 ≤ j)).map fun j => j)
  have hus : us.length ≤ 58 := by
    simp only [us, List.length_map, List.drop_zero]
    exact Nat.le_trans (List.length_filter_le _ _) hzs
  let A3 : AH := A2 ++ [.lst (us.map AV.int)]
  let A4 : AH := A3 ++ [.lst (us.map AV.int).reverse]
  have hA3 : lstAt A3 A2.length = some (us.map AV.int) := lstAt_of new_at
  refine ⟨A4 ++ [.lst [.obj A3.length, .int st']], A4.length, A3.length, us.reverse, st', ?_, ⟨new_at, ?_, r1, by rw [List.length_reverse]; omega⟩⟩
  · unfold mDeal cFn cDeal
    rw [s0]
    have e1 : (cAsg (cOp addM (cC (.int 86028157)) (cOp mulM (cC (.int 47)) (cVar 1))) (gNam 2)) [some (.fl xs), some (.int b), none, none, none] ah = .nx [some (.fl xs), some (.int b), some (.int (86028157 + 47 * b)), none, none] ah := by
      simp [cAsg, cOp, Sm.bind, cC, cVar, addM, mulM, gNam, hm]
    have e2 : (cAsg (cLc (iAny (cSl (cVar 0) (cPart (cVar 1)) (cPart (cC (.int 58))))) (gNam 4) cYes (cB absM (caCons (cB intM (caCons (cVar 4) caNil)) caNil)) [4]) (gNam 3)) [some (.fl xs), some (.int b), some (.int (86028157 + 47 * b)), none, none] ah = .nx [some (.fl xs), some (.int b), some (.int (86028157 + 47 * b)), some (.obj A1.length), none] A2 := by
      have i1 : iAny (cSl (cVar 0) (cPart (cVar 1)) (cPart (cC (.int 58)))) [some (.fl xs), some (.int b), some (.int (86028157 + 47 * b)), none, none] ah = .ok (liL ah.length) A1 := by
        simp only [iAny, cSl, cSlL, Sm.bind, cVar, cPart, cC, Sm.ret, List.getElem?_cons_zero, List.getElem?_cons_succ, ecut]
        show (match lstAt A1 ah.length with
          | none => Res.no
          | some _ => .ok (liL ah.length) A1) = _
        rw [hA1]
      simp only [cAsg, cLc, i1, wipeE, List.set_cons_succ, List.set_cons_zero, L1, List.nil_append, gNam]
      rfl
    have e3 : (cFor (iAny (cVar 3)) (gNam 4) (cAsg (cOp modM (cB intM (caCons (cOp addM (cOp addM (cOp mulM (cVar 2) (cC (.int 48271))) (cOp modM (cB intM (caCons (cVar 4) caNil)) (cC (.int 2147483477)))) (cC (.int 13))) caNil)) (cC (.int 2147483647))) (gNam 2))) [some (.fl xs), some (.int b), some (.int (86028157 + 47 * b)), some (.obj A1.length), none] A2 = .nx [some (.fl xs), some (.int b), some (.int st'), some (.obj A1.length), c'] A2 := by
      have i1 : iAny (cVar 3) [some (.fl xs), some (.int b), some (.int (86028157 + 47 * b)), some (.obj A1.length), none] A2 = .ok (liL A1.length) A2 := by
        simp [iAny, Sm.bind, cVar, hA2]
      simp only [cFor, i1]
      exact r2
    have e4 : (cRet (cLst (caCons (cRevL (cLc (iAny (cVar 3)) (gNam 4) (cTest (cOp (cmpM fun i j => decide (j ≤ i)) (cVar 4) (cOp powM (cC (.int 10)) (cC (.int 18))))) (cVar 4) [4])) (caCons (cVar 2) caNil)))) [some (.fl xs), some (.int b), some (.int st'), some (.obj A1.length), c'] A2 = .rt (.obj A4.length) (A4 ++ [.lst [.obj A3.length, .int st']]) := by
      have i1 : iAny (cVar 3) [some (.fl xs), some (.int b), some (.int st'), some (.obj A1.length), c'] A2 = .ok (liL A1.length) A2 := by
        simp [iAny, Sm.bind, cVar, hA2]
      have c1 : cLc (iAny (cVar 3)) (gNam 4) (cTest (cOp (cmpM fun i j => decide (j ≤ i)) (cVar 4) (cOp powM (cC (.int 10)) (cC (.int 18))))) (cVar 4) [4] [some (.fl xs), some (.int b), some (.int st'), some (.obj A1.length), c'] A2 = .ok (.obj A2.length) A3 := by
        simp only [cLc, i1, wipeE, List.set_cons_succ, List.set_cons_zero]
        exact L2 (.int st')
      have c2 : cRevL (cLc (iAny (cVar 3)) (gNam 4) (cTest (cOp (cmpM fun i j => decide (j ≤ i)) (cVar 4) (cOp powM (cC (.int 10)) (cC (.int 18))))) (cVar 4) [4]) [some (.fl xs), some (.int b), some (.int st'), some (.obj A1.length), c'] A2 = .ok (.obj A3.length) A4 := by
        simp only [cRevL, Sm.bind, c1, hA3]
        rfl
      simp only [cRet, cLst, caCons, caNil, Sm.bind, c2, Sm.ret, cVar, List.getElem?_cons_zero, List.getElem?_cons_succ, List.length_cons, List.length_nil]
      rw [if_pos (by decide)]
    simp only [cSeq, e1, e2, e3, e4]
  · rw [List.map_reverse]
    exact old_at new_at

theorem ix0 {ah : AH} {d : Nat} {x y : AV} (h : ah[d]? = some (.lst [x, y])) : idxDM (.obj d) (.int 0) ah = .ok x ah := by
  simp [idxDM, dctAt, h, idxM, seqOf, lstAt, atI, ixN]
theorem ix1 {ah : AH} {d : Nat} {x y : AV} (h : ah[d]? = some (.lst [x, y])) : idxDM (.obj d) (.int 1) ah = .ok y ah := by
  simp [idxDM, dctAt, h, idxM, seqOf, lstAt, atI, ixN]
theorem atI_last {α : Type} (xs : List α) (x : α) : atI (xs ++ [x]) (-1) = some x := by
  have e : ixN (xs ++ [x]).length (-1) = some xs.length := by
    unfold ixN
    rw [if_neg (by decide), if_pos (by simp; omega)]
    simp
    omega
  unfold atI
  rw [e]
  simp
theorem ixL {ah : AH} {l : Nat} {xs : List AV} {x : AV} (h : ah[l]? = some (.lst (xs ++ [x]))) : idxDM (.obj l) (.int (-1)) ah = .ok x ah := by
  simp [idxDM, dctAt, h, idxM, seqOf, lstAt, atI_last]
theorem eq_int {ah : AH} (i j : Int) : eqM false (.int i) (.int j) ah = .ok (.bl (decide (i = j))) ah := by
  have e : ∀ i, dataOf FUEL ah (.int i) = some (.int i) := fun i => by
    show dataOf (99999 + 1) ah (.int i) = _
    simp only [dataOf]
  unfold eqM
  rw [e, e]
  have s : ∀ i, SeqAt.shaped (.int i) = true := fun i => by
    unfold SeqAt.shaped PyData.canLay0 PyData.depth
    rfl
  simp only [s, and_self, if_true]
  have : PyData.eqv (.int i) (.int j) = decide (i = j) := by
    unfold PyData.eqv
    rfl
  rw [this]
  rfl
/-- deal[0] != [] where the list is of ints -/
theorem ne_nil {ah : AH} {env : AEnv} {d l : Nat} {x : AV} {is : List Int} (he : env[0]? = some (some (.obj d))) (h : ah[d]? = some (.lst [.obj l, x])) (h2 : ah[l]? = some (.lst (is.map AV.int))) (hl : is.length < 90000) :
    cTest (cOp (eqM true) (cOp idxDM (cVar 0) (cC (.int 0))) (cLst caNil)) env ah = .ok (!is.isEmpty) (ah ++ [.lst []]) := by
  have e1 : lstAt (ah ++ [AO.lst []]) l = some (is.map AV.int) := by simp [lstAt, old_at h2]
  have e2 : lstAt (ah ++ [AO.lst []]) ah.length = some (([] : List Int).map AV.int) := by simp [lstAt, new_at]
  have e3 := ne_ints e1 e2 hl (by simp)
  rw [List.map_nil, eqv_nil] at e3
  simp [cTest, cOp, Sm.bind, cVar, he, cC, ix0 h, cLst, caNil, Sm.ret, e3]
theorem DealAt.new {ah : AH} {d l : Nat} {is : List Int} {st : Int} {o : AO} (h : DealAt ah d l is st) : DealAt (ah ++ [o]) d l is st := ⟨old_at h.at_, old_at h.of_, h.ok, h.len⟩
theorem set_ne {ah : AH} {i j : Nat} {o p : AO} (h : ah[i]? = some o) (n : j ≠ i) : (ah.set j p)[i]? = some o := by rw [List.getElem?_set_ne n]; exact h
theorem set_eq {ah : AH} {i : Nat} {o p : AO} (h : ah[i]? = some o) : (ah.set i p)[i]? = some p := List.getElem?_set_self (List.getElem?_eq_some_iff.mp h).1
/-- the list within a deal is another one -/
theorem DealAt.put {ah : AH} {d l : Nat} {is js : List Int} {st : Int} (h : DealAt ah d l is st) (hl : js.length ≤ 1000) : DealAt (ah.set l (.lst (js.map AV.int))) d l js st :=
  ⟨set_ne h.at_ (Ne.symm h.ne), set_eq h.of_, h.ok, hl⟩
theorem DealAt.st {ah : AH} {d l : Nat} {is : List Int} {st st' : Int} (h : DealAt ah d l is st) (hs : stOk st') : DealAt (ah.set d (.lst [.obj l, .int st'])) d l is st' :=
  ⟨set_eq h.at_, set_ne h.of_ h.ne, hs, h.len⟩
def tZero : CT := cAnd (cTest (cOp (eqM true) (cOp idxDM (cVar 0) (cC (.int 0))) (cLst caNil))) (cTest (cOp (eqM false) (cOp idxDM (cOp idxDM (cVar 0) (cC (.int 0))) (cNeg (cC (.int 1)))) (cC (.int 0))))
theorem tZero_eq {ah : AH} {env : AEnv} {d l : Nat} {is : List Int} {st : Int} (he : env[0]? = some (some (.obj d))) (h : DealAt ah d l is st) : tZero env ah = .ok (is.getLast? == some 0) (ah ++ [.lst []]) := by
  have h1 := h.new (o := .lst [])
  have n1 := ne_nil he h.at_ h.of_ (by have := h.len; omega)
  rcases List.eq_nil_or_concat is with rfl | ⟨js, x, rfl⟩
  · simp [tZero, cAnd, Sm.bind, n1, Sm.ret]
  · have of1 := h1.of_
    rw [List.concat_eq_append] at of1 n1 ⊢
    rw [List.map_append, List.map_cons, List.map_nil] at of1
    have e2 : cTest (cOp (eqM false) (cOp idxDM (cOp idxDM (cVar 0) (cC (.int 0))) (cNeg (cC (.int 1)))) (cC (.int 0))) env (ah ++ [.lst []]) = .ok (decide (x = 0)) (ah ++ [.lst []]) := by
      simp [cTest, Sm.bind, Sm.ret, cOp, cVar, he, cC, ix0 h1.at_, cNeg, ixL of1, eq_int]
    have e3 : (!(js ++ [x]).isEmpty) = true := by simp
    rw [e3] at n1
    unfold tZero cAnd Sm.bind
    rw [n1]
    dsimp only
    rw [if_pos rfl, e2]
    have e4 : ((js ++ [x]).getLast? == some 0) = decide (x = 0) := by
      rw [List.getLast?_append, List.getLast?_singleton]
      rfl
    rw [e4]
theorem pop_deal {ah : AH} {env : AEnv} {d l : Nat} {js : List Int} {x : Int} {st : Int} (he : env[0]? = some (some (.obj d))) (h : DealAt ah d l (js ++ [x]) st) :
    cM "list" popM (cOp idxDM (cVar 0) (cC (.int 0))) caNil env ah = .ok (.int x) (ah.set l (.lst (js.map AV.int))) := by
  have of1 := h.of_
  rw [List.map_append, List.map_cons, List.map_nil] at of1
  simp [cM, Sm.bind, cOp, cVar, he, cC, ix0 h.at_, tyM, of1, caNil, Sm.ret, popM, List.getLast?_append]
theorem zero_loop {env : AEnv} {d l : Nat} {st : Int} (he : env[0]? = some (some (.obj d))) : ∀ (f : Nat) (ah : AH) (is : List Int), DealAt ah d l is st → is.length < f →
    ∃ ah' is', whileL tZero (cDrop (cM "list" popM (cOp idxDM (cVar 0) (cC (.int 0))) caNil)) f env ah = .nx env ah' ∧ DealAt ah' d l is' st ∧ is'.length ≤ is.length ∧ DFr ah ah' d l
  | 0, ah, is, h, hf => by omega
  | f + 1, ah, is, h, hf => by
    have e := tZero_eq he h
    have h1 := h.new (o := .lst [])
    by_cases z : is.getLast? = some 0
    · rcases List.eq_nil_or_concat is with rfl | ⟨js, x, rfl⟩
      · simp at z
      · rw [List.concat_eq_append] at *
        have p := pop_deal he h1
        have hlen : js.length + 1 = (js ++ [x]).length := by simp
        have h2 := h1.put (js := js) (by have := h.len; omega)
        obtain ⟨ah', is', r1, r2, r3, r4⟩ := zero_loop he f _ js h2 (by omega)
        refine ⟨ah', is', ?_, r2, by omega, (DFr.new.trans .putL).trans r4⟩
        rw [← r1]
        have z' : ((js ++ [x]).getLast? == some 0) = true := by rw [z]; rfl
        rw [z'] at e
        simp only [whileL, e, cDrop, p]
    · refine ⟨_, is, ?_, h1, Nat.le_refl _, .new⟩
      have z' : (is.getLast? == some 0) = false := by simpa using z
      rw [z'] at e
      simp only [whileL, e]
theorem draw_ok {ah : AH} {d l : Nat} {is : List Int} {st b : Int} (h : DealAt ah d l is st) (hb : 0 < b) (hb2 : b.natAbs.log2 < 9000) :
    ∃ ah' r is' st', mDraw [.obj d, .int b] ah = .ok (.int r) ah' ∧ 0 ≤ r ∧ r < b ∧ DealAt ah' d l is' st' ∧ is'.length ≤ is.length ∧ DFr ah ah' d l := by
  obtain ⟨ah1, is1, w1, h1, l1, fr1⟩ := zero_loop (env := [some (.obj d), some (.int b), none]) rfl FUEL ah is h (by have := h.len; show _ < 100000; omega)
  have n1 := ne_nil (env := [some (.obj d), some (.int b), none]) rfl h1.at_ h1.of_ (by have := h1.len; omega)
  have h2 := h1.new (o := .lst [])
  have s0 : ([AV.obj d, AV.int b].map some ++ List.replicate (3 - [AV.obj d, AV.int b].length) none : AEnv) = [some (.obj d), some (.int b), none] := rfl
  have r0 : ∀ i : Int, 0 ≤ i % b := fun i => Int.emod_nonneg _ (by omega)
  have r1 : ∀ i : Int, i % b < b := fun i => Int.emod_lt_of_pos _ hb
  have w0 : cWhile tZero (cDrop (cM "list" popM (cOp idxDM (cVar 0) (cC (.int 0))) caNil)) [some (.obj d), some (.int b), none] ah = .nx [some (.obj d), some (.int b), none] ah1 := w1
  unfold mDraw cFn cDraw
  rw [s0]
  unfold cSeq
  rw [show cWhile (cAnd (cTest (cOp (eqM true) (cOp idxDM (cVar 0) (cC (.int 0))) (cLst caNil))) (cTest (cOp (eqM false) (cOp idxDM (cOp idxDM (cVar 0) (cC (.int 0))) (cNeg (cC (.int 1)))) (cC (.int 0))))) (cDrop (cM "list" popM (cOp idxDM (cVar 0) (cC (.int 0))) caNil)) [some (.obj d), some (.int b), none] ah = .nx [some (.obj d), some (.int b), none] ah1 from w0]
  dsimp only
  have fr2 : DFr ah (ah1 ++ [AO.lst []]) d l := fr1.trans .new
  generalize hB : ah1 ++ [AO.lst []] = B at n1 h2 fr2
  rcases List.eq_nil_or_concat is1 with rfl | ⟨js, x, rfl⟩
  · have hm : st.natAbs.log2 + Nat.log2 48271 < 1000000 := by
      have := h.ok.log
      have : Nat.log2 48271 < 100 := by decide
      omega
    have h32 : Nat.log2 32 < 9000 := by decide
    have h3 := h2.st (stOk.mod (st * 48271 + 61))
    refine ⟨_, _, [], _, ?_, r0 ((st * 48271 + 61) % 2147483647 / 32), r1 _, h3, by omega, fr2.trans .putD⟩
    have hd := h2.at_
    simp [cWhen, n1, cNext, cAsg, gIx, cOp, cB, caCons, caNil, Sm.bind, Sm.ret, cVar, cC, ix1 hd, ix1 h3.at_, mulM, addM, intM, modM, fdivM, hm, setDM, hd, ixN, cRet, hb, h32]
  · rw [List.concat_eq_append] at *
    have p := pop_deal (env := [some (.obj d), some (.int b), none]) rfl h2
    have hlen : js.length + 1 = (js ++ [x]).length := by simp
    have h3 := h2.put (js := js) (by have := h1.len; omega)
    have h4 := h3.put (js := js ++ [x / b]) (by have := h1.len; simp at *; omega)
    refine ⟨_, _, js ++ [x / b], st, ?_, r0 x, r1 _, h4, by simp at *; omega, (fr2.trans .putL).trans .putL⟩
    have of3 := h3.of_
    have hj : js.length < LIM := by
      have := h1.len
      show _ < 10000000
      omega
    generalize B.set l (.lst (js.map AV.int)) = B3 at h3 p h4 of3
    have e3 : (!(js ++ [x]).isEmpty) = true := by simp
    rw [e3] at n1
    unfold cWhen
    rw [n1]
    dsimp only
    rw [if_pos rfl]
    unfold cAsg
    rw [p]
    dsimp only [gNam, List.set_cons_zero, List.set_cons_succ]
    simp [cDrop, cOp, cB, caCons, caNil, Sm.bind, Sm.ret, cVar, cC, cM, ix0 h3.at_, tyM, of3, appM, hj, fdivM, hb, hb2, cRet, intM, modM]
end Sm

set_option Elab.async false
set_option linter.all false
set_option maxRecDepth 100000
set_option maxHeartbeats 4000000
namespace Sm
open PySem PySem.Spec PyProof.Rows L2

/-! ### the first variable is not looked at -/
def Ig {α : Type} (c : AEnv → CM α) : Prop := ∀ x y e, c (x :: e) = c (y :: e)
section
variable {α : Type}
theorem ig_C {x : AV} : Ig (cC x) := fun _ _ _ => rfl
theorem ig_var {i : Nat} : Ig (cVar (i + 1)) := fun _ _ _ => rfl
theorem ig_op {f : AV → AV → CM AV} {a b : CE} (ha : Ig a) (hb : Ig b) : Ig (cOp f a b) := fun x y e => by unfold cOp; rw [ha x y e, hb x y e]
theorem ig_nil : Ig caNil := fun _ _ _ => rfl
theorem ig_cons {a : CE} {b : CA} (ha : Ig a) (hb : Ig b) : Ig (caCons a b) := fun x y e => by unfold caCons; rw [ha x y e, hb x y e]
theorem ig_tup {b : CA} (hb : Ig b) : Ig (cTup b) := fun x y e => by unfold cTup; rw [hb x y e]
theorem ig_lst {b : CA} (hb : Ig b) : Ig (cLst b) := fun x y e => by unfold cLst; rw [hb x y e]
theorem ig_B {f : List AV → CM AV} {b : CA} (hb : Ig b) : Ig (cB f b) := fun x y e => by unfold cB; rw [hb x y e]
theorem ig_call {n : Nat} {f : List AV → CM AV} {ds : List AV} {b : CA} (hb : Ig b) : Ig (cCall n f ds b) := fun x y e => by unfold cCall; rw [hb x y e]
theorem ig_make {c : Str} {n : Nat} {f : List AV → CM AV} {ds : List AV} {b : CA} (hb : Ig b) : Ig (cMake c n f ds b) := fun x y e => by unfold cMake; rw [hb x y e]
theorem ig_callK {k n j : Nat} {f : List AV → CM AV} {g} {a b : CA} (ha : Ig a) (hb : Ig b) : Ig (cCallK k n j f g a b) := fun x y e => by unfold cCallK; rw [ha x y e, hb x y e]
theorem ig_makeK {c : Str} {k n j : Nat} {f : List AV → CM AV} {g} {a b : CA} (ha : Ig a) (hb : Ig b) : Ig (cMakeK c k n j f g a b) := fun x y e => by unfold cMakeK; rw [ha x y e, hb x y e]
theorem ig_cmeth {c : Str} {k n j : Nat} {f : List AV → CM AV} {g} {a b : CA} (ha : Ig a) (hb : Ig b) : Ig (cCMeth c k n j f g a b) := fun x y e => by unfold cCMeth; rw [ha x y e, hb x y e]
theorem ig_meth {c mn : Str} {n : Nat} {f : List AV → CM AV} {ds : List AV} {a : CE} {b : CA} (ha : Ig a) (hb : Ig b) : Ig (cMeth c mn n f ds a b) := fun x y e => by unfold cMeth; rw [ha x y e, hb x y e]
theorem ig_methK {c mn : Str} {k n j : Nat} {f : List AV → CM AV} {g} {o : CE} {a b : CA} (ho : Ig o) (ha : Ig a) (hb : Ig b) : Ig (cMethK c mn k n j f g o a b) := fun x y e => by unfold cMethK; rw [ho x y e, ha x y e, hb x y e]
theorem ig_strO {c : Str} {m : List AV → CM AV} {a : CE} (ha : Ig a) : Ig (cStrO c m a) := fun x y e => by unfold cStrO; rw [ha x y e]
theorem ig_eqO {n : Bool} {c : Str} {m : List AV → CM AV} {a b : CE} (ha : Ig a) (hb : Ig b) : Ig (cEqO n c m a b) := fun x y e => by unfold cEqO; rw [ha x y e, hb x y e]
theorem ig_alt {a b : CE} (ha : Ig a) (hb : Ig b) : Ig (cAlt a b) := fun x y e => by unfold cAlt; rw [ha x y e, hb x y e]
theorem ig_altT {a b : CT} (ha : Ig a) (hb : Ig b) : Ig (cAltT a b) := fun x y e => by unfold cAltT; rw [ha x y e, hb x y e]
theorem ig_test {a : CE} (ha : Ig a) : Ig (cTest a) := fun x y e => by unfold cTest; rw [ha x y e]
theorem ig_or {a b : CT} (ha : Ig a) (hb : Ig b) : Ig (cOr a b) := fun x y e => by unfold cOr; rw [ha x y e, hb x y e]
theorem ig_and {a b : CT} (ha : Ig a) (hb : Ig b) : Ig (cAnd a b) := fun x y e => by unfold cAnd; rw [ha x y e, hb x y e]
end
def reO (y : Option AV) : Out → Out
  | .nx (_ :: e) ah => .nx (y :: e) ah
  | .bk (_ :: e) ah => .bk (y :: e) ah
  | .ct (_ :: e) ah => .ct (y :: e) ah
  | r => r
/-- the outcome where the first variable is another one -/
inductive ReO (x y : Option AV) : Out → Out → Prop where
  | no : ReO x y .no .no
  | nx (e : AEnv) (ah : AH) : ReO x y (.nx (x :: e) ah) (.nx (y :: e) ah)
  | bk (e : AEnv) (ah : AH) : ReO x y (.bk (x :: e) ah) (.bk (y :: e) ah)
  | ct (e : AEnv) (ah : AH) : ReO x y (.ct (x :: e) ah) (.ct (y :: e) ah)
  | rt (v : AV) (ah : AH) : ReO x y (.rt v ah) (.rt v ah)
  | er (v : AX) (ah : AH) : ReO x y (.er v ah) (.er v ah)
def IgS (c : CS) : Prop := ∀ x y e ah, ReO x y (c (x :: e) ah) (c (y :: e) ah)
theorem igs_next : IgS cNext := fun x y e ah => .nx e ah
theorem igs_seq {a b : CS} (ha : IgS a) (hb : IgS b) : IgS (cSeq a b) := fun x y e ah => by
  unfold cSeq
  have h := ha x y e ah
  generalize a (x :: e) ah = r1 at h
  generalize a (y :: e) ah = r2 at h
  cases h with
  | nx e1 ah1 => exact hb x y e1 ah1
  | no => exact .no
  | bk e1 ah1 => exact .bk _ _
  | ct e1 ah1 => exact .ct _ _
  | rt v ah1 => exact .rt _ _
  | er v ah1 => exact .er _ _
theorem igs_asg {i : Nat} {c : CE} (hc : Ig c) : IgS (cAsg c (gNam (i + 1))) := fun x y e ah => by
  unfold cAsg
  rw [hc x y e]
  cases c (y :: e) ah with
  | no => exact .no
  | ok v ah1 => exact .nx _ _
  | er v ah1 => exact .er _ _
theorem igs_par {i j : Nat} {c : CA} (hc : Ig c) : IgS (cPar (i + 1) (j + 1) c) := fun x y e ah => by
  unfold cPar
  rw [hc x y e]
  cases c (y :: e) ah with
  | no => exact .no
  | ok vs ah1 =>
    match vs with
    | [] => exact .no
    | [_] => exact .no
    | [a, b] => exact .nx _ _
    | _ :: _ :: _ :: _ => exact .no
  | er v ah1 => exact .er _ _
theorem igs_ret {c : CE} (hc : Ig c) : IgS (cRet c) := fun x y e ah => by
  unfold cRet
  rw [hc x y e]
  cases c (y :: e) ah with
  | no => exact .no
  | ok v ah1 => exact .rt _ _
  | er v ah1 => exact .er _ _
theorem igs_when {t : CT} {a b : CS} (ht : Ig t) (ha : IgS a) (hb : IgS b) : IgS (cWhen t a b) := fun x y e ah => by
  unfold cWhen
  rw [ht x y e]
  cases t (y :: e) ah with
  | no => exact .no
  | ok k ah1 =>
    cases k with
    | true => exact ha x y e ah1
    | false => exact hb x y e ah1
  | er v ah1 => exact .er _ _
def okT : Out → Bool
  | .nx (_ :: e) _ => e.length == 8
  | _ => false
theorem okT_ex {c : CS} (hc : IgS c) {e : AEnv} {ah : AH} (h : okT (c (none :: e) ah) = true) (y : Option AV) : ∃ e' ah', c (y :: e) ah = .nx (y :: e') ah' ∧ e'.length = 8 := by
  have r := hc none y e ah
  generalize c (none :: e) ah = r1 at r h
  generalize hr2 : c (y :: e) ah = r2 at r
  cases r with
  | nx e1 ah1 => exact ⟨e1, ah1, rfl, by simpa [okT] using h⟩
  | _ => simp [okT] at h
def cFresh : CS := fun env ah => match env with
  | [some (.fl xs), _, _, some (.int n), _, _, _, _, _] => if n = 2 ∨ n = 3 ∨ n = 4 then .nx [some (.fl xs), none, none, none, none, none, none, none, none] ah else .no
  | _ => .no
section
variable {X : Cx} {E : XK} {st : List Stmt} {c : CS}
theorem s_fresh (hb : PSs X st (tS (kc X) E c)) (hi : IgS c)
    (h2 : okT (c [none, none, none, some (.int 2), none, none, none, none, none] []) = true)
    (h3 : okT (c [none, none, none, some (.int 3), none, none, none, none, none] []) = true)
    (h4 : okT (c [none, none, none, some (.int 4), none, none, none, none, none] []) = true) : PSs X st (tS (kc X) E cFresh) := pss_imp hb fun D σ H ⟨ρ, ah, env, R, RE, q⟩ => by
  unfold cFresh at q
  split at q
  · rename_i xs a1 a2 n a4 a5 a6 a7 a8
    split at q
    · rename_i hn
      have hh : okT (c [none, none, none, some (.int n), none, none, none, none, none] []) = true := by
        rcases hn with rfl | rfl | rfl
        · exact h2
        · exact h3
        · exact h4
      obtain ⟨e', ah', e1, e2⟩ := okT_ex hi hh (some (.fl xs))
      obtain ⟨v0, s0, r0⟩ := RE.2 0 (.fl xs) rfl
      obtain ⟨v3, s3, r3⟩ := RE.2 3 (.int n) rfl
      obtain ⟨p, rfl, f0⟩ := r0.fl_inv
      refine ⟨ρ, [], [some (.fl xs), none, none, some (.int n), none, none, none, none, none], ⟨fun i o h => by simp at h, fun i j h => by simp at h⟩, ⟨RE.1, fun i x h => ?_⟩, ?_⟩
      · match i, h with
        | 0, h =>
          cases h
          exact ⟨_, s0, .fl f0⟩
        | 1, h => cases h
        | 2, h => cases h
        | 3, h =>
          cases h
          cases r3.int_inv
          exact ⟨_, s3, .int n⟩
        | 4, h => cases h
        | 5, h => cases h
        | 6, h => cases h
        | 7, h => cases h
        | 8, h => cases h
        | i + 9, h => simp at h
      · rw [e1]
        intro ρ1 H1 σ1 ex R1 RE1
        obtain ⟨v, t0, u0⟩ := RE1.2 0 (.fl xs) rfl
        obtain ⟨p1, rfl, f1⟩ := u0.fl_inv
        obtain ⟨R2, ex2⟩ := R.grow (H' := H1) fun b u h => ex.kp b u h (.inr fun i hi => absurd hi (Nat.not_lt_zero _))
        refine q ρ H1 σ1 ex2 R2 ⟨?_, fun i x h => ?_⟩
        · have l1 := RE1.1
          simp only [List.length_cons, e2] at l1
          exact l1
        · match i, h with
          | 0, h =>
            cases h
            exact ⟨_, t0, .fl f1⟩
          | i + 1, h =>
            match i, h with
            | 0, h => cases h
            | 1, h => cases h
            | 2, h => cases h
            | 3, h => cases h
            | 4, h => cases h
            | 5, h => cases h
            | 6, h => cases h
            | 7, h => cases h
            | i + 8, h => simp at h
    · exact (show False from q).elim
  · exact (show False from q).elim
end

/-- the body of a law that draws one number of three and then looks at nothing of what was dealt -/
def cBody5 : CS := (cSeq (cAsg (cCall 2 mDeal [] (caCons (cVar 0) (caCons (cVar 1) caNil))) (gNam 2))
  (cSeq (cAsg (cOp addM (cC (.int 2)) (cCall 2 mDraw [] (caCons (cVar 2) (caCons (cC (.int 3)) caNil)))) (gNam 3))
  cFresh))
def cLaw5 : CS :=
  (cSeq (cFor (iRng1C (caCons (cB max2M (caCons (cC (.int 1)) (caCons (cB min2M (caCons (cC (.int 2)) (caCons (cB lenM (caCons (cVar 0) caNil)) caNil))) caNil))) caNil)) (gNam 1) cBody5)
  (cRet (cC (.bl true))))
theorem body5 (xs : List Int) (j : Int) (h0 : 0 ≤ j) (h1 : j ≤ 1000) (ah : AH) : ∃ ah', cBody5 [some (.fl xs), some (.int j), none, none, none, none, none, none, none] ah = .nx [some (.fl xs), none, none, none, none, none, none, none, none] ah' := by
  obtain ⟨ah1, d, l, is, st, e1, D⟩ := deal_ok (ah := ah) xs j h0 h1
  obtain ⟨ah2, r, is', st', e2, r0, r1, D', _⟩ := draw_ok (b := 3) D (by decide) (by decide)
  have c1 : cAsg (cCall 2 mDeal [] (caCons (cVar 0) (caCons (cVar 1) caNil))) (gNam 2) [some (.fl xs), some (.int j), none, none, none, none, none, none, none] ah = .nx [some (.fl xs), some (.int j), some (.obj d), none, none, none, none, none, none] ah1 := by
    simp [cAsg, cCall, caCons, caNil, Sm.bind, Sm.ret, cVar, e1, gNam]
  have c2 : cAsg (cOp addM (cC (.int 2)) (cCall 2 mDraw [] (caCons (cVar 2) (caCons (cC (.int 3)) caNil)))) (gNam 3) [some (.fl xs), some (.int j), some (.obj d), none, none, none, none, none, none] ah1 = .nx [some (.fl xs), some (.int j), some (.obj d), some (.int (2 + r)), none, none, none, none, none] ah2 := by
    simp [cAsg, cOp, cC, addM, cCall, caCons, caNil, Sm.bind, Sm.ret, cVar, e2, gNam]
  refine ⟨ah2, ?_⟩
  have hr : 2 + r = 2 ∨ 2 + r = 3 ∨ 2 + r = 4 := by omega
  simp only [cBody5, cSeq, c1, c2, cFresh]
  rw [if_pos hr]
theorem loop5 (xs : List Int) (n : Nat) (hn : n ≤ 1000) : ∀ (f i : Nat) (z : Option AV) (ah : AH), n < f + i → i ≤ n → ∃ z' ah', forL (liR 0 n) (gNam 1) cBody5 f i [some (.fl xs), z, none, none, none, none, none, none, none] ah = .nx [some (.fl xs), z', none, none, none, none, none, none, none] ah'
  | 0, i, z, ah, h, h2 => by omega
  | f + 1, i, z, ah, h, h2 => by
    by_cases hi : i < n
    · obtain ⟨ah1, e1⟩ := body5 xs (0 + (i : Int)) (by omega) (by omega) ah
      obtain ⟨z', ah', e2⟩ := loop5 xs n hn f (i + 1) none ah1 (by omega) hi
      refine ⟨z', ah', ?_⟩
      rw [← e2]
      simp only [forL, liR, if_pos hi, gNam, List.set_cons_succ, List.set_cons_zero, e1]
    · refine ⟨z, ah, ?_⟩
      simp only [forL, liR, if_neg hi]
theorem law5 (xs : List Int) : ∃ ah', cFn 9 cLaw5 [.fl xs] [] = .ok (.bl true) ah' := by
  let m : Int := if (if ((xs.length : Nat) : Int) < 2 then ((xs.length : Nat) : Int) else 2) > 1 then (if ((xs.length : Nat) : Int) < 2 then ((xs.length : Nat) : Int) else 2) else 1
  have hm0 : 1 ≤ m := by simp only [m]; split <;> omega
  have hm1 : m ≤ 2 := by simp only [m]; split <;> split <;> omega
  obtain ⟨z', ah', e⟩ := loop5 xs m.toNat (by omega) FUEL 0 none [] (by show _ < 100000 + 0; omega) (Nat.zero_le _)
  refine ⟨ah', ?_⟩
  have s0 : ([AV.fl xs].map some ++ List.replicate (9 - [AV.fl xs].length) none : AEnv) = [some (.fl xs), none, none, none, none, none, none, none, none] := rfl
  have hz : m.natAbs < 2 ^ 60 := by omega
  have i1 : iRng1C (caCons (cB max2M (caCons (cC (.int 1)) (caCons (cB min2M (caCons (cC (.int 2)) (caCons (cB lenM (caCons (cVar 0) caNil)) caNil))) caNil))) caNil) [some (.fl xs), none, none, none, none, none, none, none, none] [] = .ok (liR 0 m.toNat) [] := by
    simp only [iRng1C, caCons, caNil, cB, cC, cVar, Sm.bind, Sm.ret, max2M, min2M, lenM, lenOf, List.getElem?_cons_zero]
    rw [if_pos hz]
  unfold cFn cLaw5
  rw [s0]
  simp only [cSeq, cFor, i1, e, cRet, cC]
end Sm

set_option Elab.async false
set_option linter.all false
set_option maxRecDepth 100000
set_option maxHeartbeats 4000000
namespace Sm
open PySem PySem.Spec PyProof.Rows L2

/-! ### dict comprehensions -/
/-- the dict that a comprehension makes, put aside till it is whole -/
structure AsD (C : KC) (ρ1 : Nat → Addr) (n1 : Nat) (H1 : Hp) (D : Addr) (ρ : Nat → Addr) (ah : AH) (acc : List (Key × AV)) (vacc : List (Key × V)) (H : Hp) : Prop where
  ex : Ext ρ1 n1 H1 ρ ah.length H
  rp : Rep C ρ ah H
  at_ : H D = some (.dK vacc)
  rv : KVs C ρ ah.length H acc vacc
  nd : ∀ j, j < ah.length → ρ j ≠ D
section
variable {C : KC} {E : XK} {ρ1 ρ ρ2 : Nat → Addr} {n1 : Nat} {H1 H H2 : Hp} {D : Addr} {ah ah2 : AH} {acc : List (Key × AV)} {vacc : List (Key × V)} {y : AV} {v : V} {Q : VK} {key : Key}
theorem AsD.start (R : Rep C ρ1 ah H1) (hD : H1 D = none) : AsD C ρ1 ah.length H1 D ρ1 ah [] [] (upd H1 D (.dK [])) := by
  obtain ⟨R', e'⟩ := R.grow (H' := upd H1 D (.dK [])) fun b w hb => by rw [upd_ne (ne_of_none hb hD)]; exact hb
  refine ⟨e', R', upd_same, ⟨rfl, .nil⟩, fun j hj z => ?_⟩
  obtain ⟨u, hu⟩ := R.there hj
  rw [z, hD] at hu
  cases hu
theorem AsD.step (a : AsD C ρ1 n1 H1 D ρ ah acc vacc H) (e : Ext ρ ah.length H ρ2 ah2.length H2) (R : Rep C ρ2 ah2 H2) : AsD C ρ1 n1 H1 D ρ2 ah2 acc vacc H2 := by
  refine ⟨a.ex.trans e, R, e.kp _ _ a.at_ (.inr a.nd), a.rv.mono e, fun j hj z => ?_⟩
  by_cases l : j < ah.length
  · rw [e.ag j l] at z
    exact a.nd j l z
  · have w := e.nw j (Nat.le_of_not_lt l) hj
    rw [z, a.at_] at w
    cases w
theorem AsD.push (a : AsD C ρ1 n1 H1 D ρ ah acc vacc H) (hD : H1 D = none) (r : RV C ρ ah.length H y v) : AsD C ρ1 n1 H1 D ρ ah (putKA acc key y) (putK vacc key v) (upd H D (.dK (putK vacc key v))) := by
  have kf : ∀ p ob ws, H p = some (.frz ob ws) → upd H D (.dK (putK vacc key v)) p = some (.frz ob ws) := fun p ob ws h => by
    rw [upd_ne]
    · exact h
    · rintro rfl
      rw [a.at_] at h
      cases h
  have kk : ∀ b p ws, SqB C.K H b p ws → SqB C.K (upd H D (.dK (putK vacc key v))) b p ws := fun b p ws h => by
    cases b with
    | true =>
      rcases h with ⟨ob, h, k⟩ | h
      · exact .inl ⟨ob, kf _ _ _ h, k⟩
      · exact .inr h
    | false =>
      rcases h with ⟨ob, h⟩ | h
      · exact .inl ⟨ob, kf _ _ _ h⟩
      · exact .inr h
  refine ⟨⟨a.ex.le, a.ex.ag, a.ex.nw, fun b o h s => ?_, fun b o h => ?_⟩, ⟨fun j o hj => ?_, a.rp.inj⟩, upd_same, ?_, a.nd⟩
  · rw [upd_ne (ne_of_none h hD)]
    exact a.ex.kp b o h s
  · rw [upd_ne (ne_of_none h hD)]
    exact a.ex.th b o h
  · have hj' := (List.getElem?_eq_some_iff.mp hj).1
    exact RO.mono2 (fun _ _ => rfl) (Nat.le_refl _) kk (upd_ne (a.nd j hj')) (a.rp.obj j o hj)
  · exact ⟨(kvs_putK r a.rv).1, RVs.mono2 (fun _ _ => rfl) (Nat.le_refl _) kk (kvs_putK (k := key) r a.rv).2⟩
theorem AsD.done (a : AsD C ρ1 n1 H1 D ρ ah acc vacc H) (hD : H1 D = none) (q : Aft C E ρ1 n1 H1 (.ok (.obj ah.length) (ah ++ [.dct acc])) Q) : Q (.ref D) H := by
  have hlen : (ah ++ [AO.dct acc]).length = ah.length + 1 := by simp
  have up : ∀ {x v}, RV C ρ ah.length H x v → RV C (rput ρ ah.length D) (ah.length + 1) H x v := fun h => RV.mono2 (fun j hj => rput_lt hj) (Nat.le_succ _) (fun _ _ _ h => h) h
  refine q (rput ρ ah.length D) H _ ⟨by rw [hlen]; exact Nat.le_succ_of_le a.ex.le, fun j hj => ?_, fun j h1 h2 => ?_, a.ex.kp, a.ex.th⟩ ⟨fun j o hj => ?_, fun j k hj hk z => ?_⟩ ?_
  · rw [rput_lt (Nat.lt_of_lt_of_le hj a.ex.le)]
    exact a.ex.ag j hj
  · rw [hlen] at h2
    by_cases z : j < ah.length
    · rw [rput_lt z]
      exact a.ex.nw j h1 z
    · have : j = ah.length := by omega
      subst this
      rw [rput_same]
      exact hD
  · rw [hlen]
    by_cases z : j < ah.length
    · rw [List.getElem?_append_left z] at hj
      rw [rput_lt z]
      exact RO.mono2 (fun j hj => rput_lt hj) (Nat.le_succ _) (fun _ _ _ h => h) rfl (a.rp.obj j o hj)
    · have : j = ah.length := by
        have := (List.getElem?_eq_some_iff.mp hj).1
        rw [hlen] at this
        omega
      subst this
      rw [List.getElem?_append_right (Nat.le_refl _), Nat.sub_self] at hj
      have : AO.dct acc = o := by simpa using hj
      subst this
      rw [rput_same]
      exact ⟨vacc, a.at_, a.rv.1, RVs.mono2 (fun j hj => rput_lt hj) (Nat.le_succ _) (fun _ _ _ h => h) a.rv.2⟩
  · rw [hlen] at hj hk
    by_cases zj : j < ah.length
    · rw [rput_lt zj] at z
      by_cases zk : k < ah.length
      · rw [rput_lt zk] at z
        exact a.rp.inj j k zj zk z
      · have : k = ah.length := by omega
        subst this
        rw [rput_same] at z
        exact absurd z (a.nd j zj)
    · have : j = ah.length := by omega
      subst this
      rw [rput_same] at z
      by_cases zk : k < ah.length
      · rw [rput_lt zk] at z
        exact absurd z.symm (a.nd k zk)
      · omega
  · have z : RV C (rput ρ ah.length D) (ah ++ [AO.dct acc]).length H (.obj ah.length) (.ref (rput ρ ah.length D ah.length)) := .obj (by rw [hlen]; exact Nat.lt_succ_self _)
    rw [rput_same] at z
    exact z
end
def dcL (ci : CI) (g : CG) (t : CT) (ck c : CE) (env : AEnv) : Nat → Nat → List (Key × AV) → CM AV
  | 0, _, _ => fun _ => .no
  | f + 1, i, acc => fun ah => match ci ah i with
    | .no => .no
    | .stop => .ok (.obj ah.length) (ah ++ [.dct acc])
    | .yld x => match g x env ah with
      | .nx e1 ah1 => match t e1 ah1 with
        | .ok true ah2 => match ck e1 ah2 with
          | .ok y ah3 => match keyA y with
            | some k => match c e1 ah3 with
              | .ok z ah4 => if acc.length < LIM then dcL ci g t ck c env f (i + 1) (putKA acc k z) ah4 else .no
              | _ => .no
            | none => .no
          | _ => .no
        | .ok false ah2 => dcL ci g t ck c env f (i + 1) acc ah2
        | _ => .no
      | _ => .no
def cDc (it : CIE) (g : CG) (t : CT) (ck c : CE) (vs : List Nat) : CE := fun env ah => match it env ah with
  | .no => .no
  | .er x ah1 => .er x ah1
  | .ok ci ah1 => dcL ci g t ck c (wipeE env vs) FUEL 0 [] ah1
section
variable {X : Cx} {E : XK} {pos : Pos} {tg iter kx vx : Expr} {ifs : List Expr} {it : CIE} {g : CG} {t : CT} {ck c : CE} {scope : Scope} {own : List (Str × Nat)}
theorem dc_cut {vs : List Nat} {σ : L2.St} {H : Hp} {Q : VK} (q : tE (kc X) E (cDc it g t ck c vs) σ H Q) : tDc (tI (kc X) E it) (tGs (kc X) EN g vs) (tT (kc X) EN t) (tE (kc X) EN ck) (tE (kc X) EN c) vs σ H Q := by
  obtain ⟨ρ, ah, env, R, RE, q⟩ := q
  refine ⟨ρ, ah, env, R, RE, ?_⟩
  unfold cDc at q
  cases ha : it env ah with
  | no => rw [ha] at q; exact q
  | er x ah1 => rw [ha] at q; exact q
  | ok ci ah1 =>
    rw [ha] at q
    intro ρ1 H1 J e1 R1 its D hD
    have q := Aft.pre e1 q
    dsimp only at q
    let W : Nat → Nat → Hp → Prop := fun i m H' => ∃ ρ' ah' acc vacc, AsD (kc X) ρ1 ah1.length H1 D ρ' ah' acc vacc H' ∧ Aft (kc X) E ρ1 ah1.length H1 (dcL ci g t ck c (wipeE env vs) m i acc ah') Q
    refine ⟨W, ⟨FUEL, ρ1, ah1, [], [], .start R1 hD, q⟩, ?_⟩
    rintro i m H' ⟨ρ', ah', acc, vacc, a, q⟩
    cases m with
    | zero => exact (show False from q).elim
    | succ f =>
      unfold dcL at q
      obtain ⟨i1, i2⟩ := its ρ' ah' H' i a.ex.w a.rp
      cases hx : ci ah' i with
      | no => rw [hx] at q; exact (show False from q).elim
      | stop =>
        rw [hx] at q
        exact .inl ⟨i1 hx, a.done hD q⟩
      | yld x =>
        rw [hx] at q
        obtain ⟨go, y⟩ := i2 x hx
        refine .inr ⟨go, fun H2 => W (i + 1) f H2, fun H2 h => ⟨f, Nat.lt_succ_self f, h⟩, fun v H2 hv => ?_⟩
        obtain ⟨e3, R2, rv⟩ := y v H2 hv
        have a2 := a.step e3 R2
        refine ⟨ρ', ah', wipeE env vs, x, R2, (RE.mono (e1.trans a2.ex)).wipe vs, rv, ?_⟩
        dsimp only at q
        cases hgx : g x (wipeE env vs) ah' with
        | no => rw [hgx] at q; exact (show False from q).elim
        | er y ah2 => rw [hgx] at q; exact (show False from q).elim
        | rt y ah2 => rw [hgx] at q; exact (show False from q).elim
        | bk y ah2 => rw [hgx] at q; exact (show False from q).elim
        | ct y ah2 => rw [hgx] at q; exact (show False from q).elim
        | nx en ah2 =>
          rw [hgx] at q
          intro ρ3 H3 σ3 e4 R3 RE3 o3
          have a3 := a2.step e4 R3
          refine ⟨wipe_outs o3, ρ3, ah2, en, R3, RE3, ?_⟩
          dsimp only at q
          cases htx : t en ah2 with
          | no => rw [htx] at q; exact (show False from q).elim
          | er y ah3 => rw [htx] at q; exact (show False from q).elim
          | ok b ah3 =>
            rw [htx] at q
            intro ρ4 H4 e5 R4
            have a4 := a3.step e5 R4
            cases b with
            | false => exact ⟨ρ4, ah3, acc, vacc, a4, q⟩
            | true =>
              dsimp only at q
              refine ⟨ρ4, ah3, en, R4, RE3.mono e5, ?_⟩
              cases hkx : ck en ah3 with
              | no => rw [hkx] at q; exact (show False from q).elim
              | er y ah4 => rw [hkx] at q; exact (show False from q).elim
              | ok y ah4 =>
                rw [hkx] at q
                dsimp only at q
                intro ρ5 H5 v5 e6 R5 r5
                have a5 := a4.step e6 R5
                cases hk : keyA y with
                | none => rw [hk] at q; exact (show False from q).elim
                | some key =>
                  rw [hk] at q
                  dsimp only at q
                  have ek := keyA_kV r5 hk
                  refine ⟨ρ5, ah4, en, R5, (RE3.mono e5).mono e6, ?_⟩
                  cases hcx : c en ah4 with
                  | no => rw [hcx] at q; exact (show False from q).elim
                  | er z ah5 => rw [hcx] at q; exact (show False from q).elim
                  | ok z ah5 =>
                    rw [hcx] at q
                    dsimp only at q
                    intro ρ6 H6 v6 e7 R6 r6
                    have a6 := a5.step e7 R6
                    split at q
                    · rename_i hl
                      refine ⟨vacc, key, ek, a6.at_, by rw [← a6.rv.len]; exact Nat.lt_of_lt_of_le hl lim_line, ρ6, ah5, _, _, a6.push hD r6, q⟩
                    · exact (show False from q).elim
theorem e_dc (hc : X.calm = true) (hN : X.N.Nodup) (hi : PI X tg iter (tI (kc X) E it)) (ok : BlkOk X.N X.env.scope scope own)
    (hg : ∀ (s : Shared) (H : Hp) (Cc : Addr) (cl : List (Str × Addr)) (fp : List Addr), PG (X.blk s H scope (compEnvC scope cl Cc X.env) fp) tg (tGs (kc X) EN g (own.map (·.2)))) (ht : ∀ (s : Shared) (H : Hp) (Cc : Addr) (cl : List (Str × Addr)) (fp : List Addr), PTs (X.blk s H scope (compEnvC scope cl Cc X.env) fp) ifs (tT (kc X) EN t))
    (hk : ∀ (s : Shared) (H : Hp) (Cc : Addr) (cl : List (Str × Addr)) (fp : List Addr), PE (X.blk s H scope (compEnvC scope cl Cc X.env) fp) kx (tE (kc X) EN ck))
    (he : ∀ (s : Shared) (H : Hp) (Cc : Addr) (cl : List (Str × Addr)) (fp : List Addr), PE (X.blk s H scope (compEnvC scope cl Cc X.env) fp) vx (tE (kc X) EN c)) (hs : ∀ x, foldedSetIterable iter X.env x = pure x := by intro _; rfl) :
    PE X (.DictComp kx vx [⟨tg, iter, ifs, 0⟩] scope pos) (tE (kc X) E (cDc it g t ck c (own.map (·.2)))) := pe_imp (pe_dc hc hN hi ok hg ht hk he hs) fun _ _ _ q => dc_cut q
theorem ps_setDc {i : Nat} {y : Str} {py spos : Pos} {wi : TI} {gg : TG} {tt : TT} {tk tv : TE} (hc : X.calm = true) (hN : X.N.Nodup) (hy : X.N[i]? = some y) (hyl : X.env.scope.names.lookup y = some .local)
    (hsw : swapsWith (.DictComp kx vx [⟨tg, iter, ifs, 0⟩] scope pos) (some (.Name y py)) spos.line X.env = pure true) (hi : PI X tg iter wi) (ok : BlkOk X.N X.env.scope scope own)
    (hg : ∀ (s : Shared) (H : Hp) (C : Addr) (cl : List (Str × Addr)) (fp : List Addr), PG (X.blk s H scope (compEnvC scope cl C X.env) fp) tg gg) (ht : ∀ (s : Shared) (H : Hp) (C : Addr) (cl : List (Str × Addr)) (fp : List Addr), PTs (X.blk s H scope (compEnvC scope cl C X.env) fp) ifs tt)
    (hk : ∀ (s : Shared) (H : Hp) (C : Addr) (cl : List (Str × Addr)) (fp : List Addr), PE (X.blk s H scope (compEnvC scope cl C X.env) fp) kx tk)
    (he : ∀ (s : Shared) (H : Hp) (C : Addr) (cl : List (Str × Addr)) (fp : List Addr), PE (X.blk s H scope (compEnvC scope cl C X.env) fp) vx tv) (hs : ∀ x, foldedSetIterable iter X.env x = pure x := by intro _; rfl) :
    PS X (.Assign [.Name y py] (.DictComp kx vx [⟨tg, iter, ifs, 0⟩] scope pos) spos) (tAsg (tDc wi gg tt tk tv (own.map (·.2))) (gName i)) := by
  refine ⟨fun pins s σ H D I h => ?_⟩
  rw [exec_Assign_Name_used _ _ _ _ hsw]
  refine wpAny_bind (wpAny_standAt (wpAny_bind ?_))
  show wpAny _ X.A (do let _ ← comprehension (.DictComp kx vx [⟨tg, iter, ifs, 0⟩] scope pos) scope X.env (firstIterPos [⟨tg, iter, ifs, 0⟩] pos) newDict false (eval iter X.env) (some (assign (.Name y py) X.env))) _ _ s
  have h : tDc wi gg tt tk tv (own.map (·.2)) σ H (fun x H1 => gName i x σ H1 D.nx) := h
  refine wpAny_bind (thn (dc_core (Qf := fun _ s' => SP X pins D .next s') hc hN I hi ok hg ht hk he hs h fun L C s' m H' I' q hn f => ?_) fun _ s' hq => wpAny_pure (wpAny_pure hq))
  show wpAny _ _ (assign (.Name y py) X.env (.ref L)) _ _ _
  refine wpAny_assign_Name (store_ok2 (v := V.ref L) I' hN hy (.inl hyl) rfl (fun s2 I2 ⟨a, sb, ha⟩ => ?_) (.inr hyl))
  obtain ⟨f0, f1, f2, f3, f4, f5⟩ := f
  have haC : C ≠ a := by
    rcases ha with z | z
    · rw [z]; exact f1
    · exact fun e => f4 y a z e.symm
  refine ⟨m, hn.sameBut sb haC, fun h3 sb3 => ?_⟩
  exact ⟨_, H', I2.turned (t' := s2.toks) (fun b o hb e => (sb3.2 b hb).trans e) f0 f1 f3 f4 f5, q⟩
theorem s_setDc {y : Str} {py spos : Pos} (i : Nat) (hc : X.calm = true) (hN : X.N.Nodup) (hy : X.N[i]? = some y) (hyl : X.env.scope.names.lookup y = some .local)
    (hsw : swapsWith (.DictComp kx vx [⟨tg, iter, ifs, 0⟩] scope pos) (some (.Name y py)) spos.line X.env = pure true) (hi : PI X tg iter (tI (kc X) E it)) (ok : BlkOk X.N X.env.scope scope own)
    (hg : ∀ (s : Shared) (H : Hp) (Cc : Addr) (cl : List (Str × Addr)) (fp : List Addr), PG (X.blk s H scope (compEnvC scope cl Cc X.env) fp) tg (tGs (kc X) EN g (own.map (·.2)))) (ht : ∀ (s : Shared) (H : Hp) (Cc : Addr) (cl : List (Str × Addr)) (fp : List Addr), PTs (X.blk s H scope (compEnvC scope cl Cc X.env) fp) ifs (tT (kc X) EN t))
    (hk : ∀ (s : Shared) (H : Hp) (Cc : Addr) (cl : List (Str × Addr)) (fp : List Addr), PE (X.blk s H scope (compEnvC scope cl Cc X.env) fp) kx (tE (kc X) EN ck))
    (he : ∀ (s : Shared) (H : Hp) (Cc : Addr) (cl : List (Str × Addr)) (fp : List Addr), PE (X.blk s H scope (compEnvC scope cl Cc X.env) fp) vx (tE (kc X) EN c)) (hs : ∀ x, foldedSetIterable iter X.env x = pure x := by intro _; rfl) :
    PS X (.Assign [.Name y py] (.DictComp kx vx [⟨tg, iter, ifs, 0⟩] scope pos) spos) (tS (kc X) E (cAsg (cDc it g t ck c (own.map (·.2))) (gNam i))) := ps_imp (ps_setDc (i := i) hc hN hy hyl hsw hi ok hg ht hk he hs) fun D σ H ⟨ρ, ah, env, R, RE, q⟩ => by
  refine dc_cut (E := E) ⟨ρ, ah, env, R, RE, ?_⟩
  unfold cAsg at q
  cases hh : cDc it g t ck c (own.map (·.2)) env ah with
  | no => rw [hh] at q; exact q
  | er x ah1 => rw [hh] at q; exact q
  | ok x ah1 =>
    rw [hh] at q
    exact fun ρ1 H1 v e1 R1 r => q ρ1 H1 _ e1 R1 ((RE.mono e1).set i r)
end
/-! ### try, where nothing is raised -/
def cNoEr (c : CS) : CS := fun env ah => match c env ah with
  | .er _ _ => .no
  | r => r
theorem s_try0 {X : Cx} {E : XK} {body : List Stmt} {h₀ : ExceptHandler} {hs : List ExceptHandler} {pos : Pos} {c : CS} (hb : PSs X.nox body (tS (kc X) EN c)) : PS X (.Try body (h₀ :: hs) [] [] pos) (tS (kc X) E (cNoEr c)) := ps_imp (ps_try_thru0 hb) fun D σ H ⟨ρ, ah, env, R, RE, q⟩ => by
  refine ⟨ρ, ah, env, R, RE, ?_⟩
  unfold cNoEr at q
  cases hh : c env ah with
  | er x ah1 => rw [hh] at q; exact (show False from q).elim
  | no => rw [hh] at q; exact q
  | nx e ah1 => rw [hh] at q; exact q
  | bk e ah1 => rw [hh] at q; exact q
  | ct e ah1 => rw [hh] at q; exact q
  | rt e ah1 => rw [hh] at q; exact q
end Sm

set_option Elab.async false
set_option linter.all false
set_option maxRecDepth 100000
set_option maxHeartbeats 4000000
namespace Sm
open PySem PySem.Spec PyProof.Rows L2
/-- the walk of a law whose defs may hand exceptions on, and none leaves it -/
theorem walk_x {ol : PySem.W.OpenLaw} {top lvl : Nat} {qq : Program} {ls : List Str} {XQ : (Str → Option Value) → Heap → Prop} {YQ : World → Heap → Prop} {dd : DefRec} {arg : Str}
    (h1 : ol.most = some top) (h2 : top ≤ sizeLine) (h3 : dd.params.defaults = []) (h4 : Room lvl callerA)
    (FF : ∀ (ww : World) (gl : Str → Option Value) (ff : Addr) (hp : Heap), YQ ww hp → hp.Ns mainGlobals gl → gl dd.name = some (.ref ff) →
      ∃ (KK : PySem.W.Frag) (da : FuncData) (pr : Sp), KK.In hp ∧
        (∀ (sh : Shared) (val : Value), BindsTo sh da ⟨[val], []⟩ [(arg, val)]) ∧
        (∀ (HH : Hp) (ad : Addr) (is : List Int), is.length ≤ top → Only HH → SqL KK HH ad (is.map V.int) → pr [.ref ad] HH (fun res _ => res = .bl true) EN) ∧
        ∀ bs : Heap, KK.In bs → bs.Ns mainGlobals gl →
          FnOk ol.prog ww KK gl bs (L2.CX ol.prog ww) lvl ff da [arg] pr) :
    PySem.W.WalkO qq ls XQ YQ ol.row.toRowW dd [] (fun ff us => PySem.call ff us) := by
  refine Att.attach_call h1 h3 ?_
  intro ww sA sB gl bl ff oo pp cc tx ad us is GG YY _ _ _ hgl hob his hle hge
  obtain ⟨KK, da, pr, KI, bi, sp, ok⟩ := FF ww gl ff _ YY GG.T.g hgl
  refine law_call KI GG.T.g GG.T.b GG.T.builtins GG.T.nolimit hge hob his (Nat.le_trans hle h2) h4 ok bi ?_ ?_
  · exact fun HH hO hS => sp HH ad is hle hO hS
  · rintro HH ee sC ⟨_, _, _, _, _, _, _, _, _, _, _, _, hE⟩
    exact hE
end Sm

set_option Elab.async false
set_option linter.all false
set_option maxRecDepth 100000
set_option maxHeartbeats 4000000
namespace Sm
open PySem PySem.Spec PyProof.Rows L2

/-! ### x(e, ..) where the local x holds a def -/
def cCallL (i : Nat) (c : Str) (n : Nat) (m : List AV → CM AV) (cs : CA) : CE := fun env ah => match env[i]? with
  | some (some (.glo c')) => if c' = c then cCall n m [] cs env ah else .no
  | _ => .no
section
variable {X : Cx} {E : XK} {x c f : Str} {p pos pos' tpos : Pos} {e o value : Expr} {es : List Expr} {cs : CA} {co ce : CE} {j k : Nat} {ps : List Str} {m : List AV → CM AV} {fcs : List Str}
theorem x_callL (i : Nat) (F : Has X.prog X.w X.K X.mg X.base j (c, none) ps m) (hr : Room k X.A) (hjk : j ≤ k) (hm : X.mg c = some (.ref (He.ga X.K c))) (hx : Passes (L2.CX X.prog X.w) X E)
    (ha : PA X (e :: es) (tA (kc X) E cs)) (hN : X.N[i]? = some x := by rfl) (hv : Vis X.env.scope x := by first | exact Or.inl rfl | exact Or.inr (Or.inl rfl) | exact Or.inr (Or.inr rfl)) (hdb : (x == ("__debug__" : Str)) = false := by decide) (hcd : (x == ("__classdict__" : Str)) = false := by decide)
    (he : starEach (e :: es) X.env = (false, eval e X.env) :: starEach es X.env := by rfl) (hpl : (backTo pos (starEach es X.env)).any (·.1) = false := by rfl) :
    PE X (.Call (.Name x p) (e :: es) [] pos) (tE (kc X) E (cCallL i c ps.length m cs)) := by
  obtain ⟨fd, F, b, hk⟩ := F.ex
  refine pe_imp (pe_callL (i := i) F (hr.mono hjk) hN hv hk b .nil hx ha hdb hcd he hpl) fun σ H Q ⟨ρ, ah, env, R, RE, q⟩ => ?_
  unfold cCallL at q
  split at q
  · rename_i c' hi
    split at q
    · rename_i hc
      subst hc
      obtain ⟨v, h1, h2⟩ := RE.2 i _ hi
      have hv2 : v = .ref (He.ga X.K c') := by
        cases h2 with
        | glo z =>
          have e := (show X.mg c' = _ from z).symm.trans hm
          simpa using e
      subst hv2
      exact ⟨h1, call_cut rds_nil ⟨ρ, ah, env, R, RE, q⟩⟩
    · exact (show False from q).elim
  · exact (show False from q).elim

/-! ### o.f += k -/
def cIncF (fcs : List Str) (f : Str) (co : CE) (k : Int) : CS := fun env ah => match co env ah with
  | .no => .no
  | .er x ah2 => .er x ah2
  | .ok o ah2 => match o with
    | .obj n => match ah2[n]? with
      | some (.ins c fs) => match fs.lookup f with
        | some (.int a) => if c ∈ fcs ∧ fs.length < 999 then .nx env (ah2.set n (.ins c (putA f (.int (a + k)) fs))) else .no
        | _ => .no
      | _ => .no
    | _ => .no
theorem s_incF {kk : Int} {jj} {ppos : Pos} (hc : ClsOf (kc X) fcs f) (ho : PE X o (tE (kc X) E co)) : PS X (.AugAssign (.Attribute o f tpos) .Add (.Constant (.int kk) jj ppos) pos) (tS (kc X) E (cIncF fcs f co kk)) :=
  ps_imp (ps_fldaug ho pe_int in_add) fun D σ H ⟨ρ, ah, env, R, RE, q⟩ => by
    refine ⟨ρ, ah, env, R, RE, ?_⟩
    unfold cIncF at q
    cases hb : co env ah with
    | no => rw [hb] at q; exact q
    | er x ah1 => rw [hb] at q; exact q
    | ok x ah2 =>
      rw [hb] at q
      intro ρ2 H2 w e2 R2 rx
      replace q := AftS.pre e2 q
      have RE2 := RE.mono e2
      dsimp only at q
      cases x with
      | obj i =>
        obtain ⟨hi, rfl⟩ := rx.obj_inv
        dsimp only at q
        split at q
        · rename_i cl fs hx
          split at q
          · rename_i a hl
            split at q
            · rename_i hm
              obtain ⟨_, Ca, dx, ws, h1, h2, h3⟩ := R2.ins hx
              obtain ⟨v, hv, rv⟩ := kvs_lookup h3 hl
              cases rv.int_inv
              obtain ⟨k1, k2⟩ := hc cl hm.1 Ca h1
              refine ⟨_, Ca, dx, ws, _, rfl, h2, k1, k2, hv, ⟨a, kk, rfl, rfl, dx, ws, h2, by rw [← h3.len]; omega, ?_⟩⟩
              obtain ⟨R', e'⟩ := R2.write (o := .ins cl (putA f (.int (a + kk)) fs)) (w' := .ins Ca dx (putF f (.int (a + kk)) ws)) hi h2 (fun z => z) fun e => ⟨Ca, dx, _, h1, upd_same, (kvs_put (.int _) h3).mono e⟩
              exact q ρ2 _ σ e' R' (RE2.mono e')
            · exact (show False from q).elim
          · exact (show False from q).elim
        · exact (show False from q).elim
      | _ => exact (show False from q).elim
end

/-! ### exceptions of the text's own, with one field -/
def spX (C : Addr) (f : Str) : Sp := fun vs H Q _ => ∃ (a : Addr) (y : V), vs = [.ref a, y] ∧ H a = some (exo a C none) ∧ ∀ dx, H dx = none → dx ≠ a → Q .non (upd (upd H dx (exd dx [(f, y)])) a (exo a C (some dx)))
theorem oex_ok {K : PySem.W.Frag} {c : Str} (h : oexB K c = true) : OexC K (He.ga K c) := by
  obtain ⟨h1, h⟩ := He.ba h
  obtain ⟨h2, h⟩ := He.ba h
  obtain ⟨h3, h⟩ := He.ba h
  obtain ⟨h4, h5⟩ := He.ba h
  refine ⟨?_, He.eqO_ok h2, of_decide_eq_true h3, of_decide_eq_true h4, h5⟩
  split at h1
  · rename_i t dd nm bs mro N q hd sn sub ab col del sl e
    split at h1
    · rename_i C' bm k0 k1 k2 k3 n k5 hs
      obtain ⟨a1, h1⟩ := He.ba h1
      obtain ⟨a2, h1⟩ := He.ba h1
      obtain ⟨a3, h1⟩ := He.ba h1
      obtain ⟨a4, h1⟩ := He.ba h1
      obtain ⟨a5, a6⟩ := He.ba h1
      have b1 := of_decide_eq_true a1
      have b2 := of_decide_eq_true a2
      have b3 := of_decide_eq_true a3
      subst b1 b3
      have b4 : del = false := by simpa using a4
      subst b4 a5
      obtain ⟨l⟩ := sl
      simp only at hs
      subst hs
      subst b2
      exact ⟨nm, q, N, bs, bm, sn, sub, ab, col, dd, k0, k1, k2, k3, k5, e, a6⟩
    · cases h1
  · cases h1
/-- what is known of such a class c with the field f -/
structure XC (P : Program) (w : World) (K : PySem.W.Frag) (mg : Str → Option Value) (base : Heap) (c f : Str) : Prop where
  oex : OexC K (He.ga K c)
  at_ : PySem.W.findIn K (.ref (He.ga K c)) "__init__" = some (some (.ref (He.ma K (He.ga K c) "__init__")))
  ty : PySem.W.typeIn K (.ref (He.ma K (He.ga K c) "__init__")) = some (.type "function")
  ini : ∃ fd ps, FnOk P w K mg base (L2.CX P w) 1 (He.ma K (He.ga K c) "__init__") fd ps (spX (He.ga K c) f) ∧ Binds K fd ps []
structure XB (K : PySem.W.Frag) (c f : Str) : Prop where
  oex : OexC K (He.ga K c)
  no_ : PySem.W.findIn K (.ref (He.ga K c)) f = some none
  at_ : PySem.W.findIn K (.ref (He.ga K c)) "__init__" = some (some (.ref (He.ma K (He.ga K c) "__init__")))
  ty : PySem.W.typeIn K (.ref (He.ma K (He.ga K c) "__init__")) = some (.type "function")
  exm : PySem.W.exmOne K (.ref (He.ga K c)) (.ref (He.ga K c)) = some true
theorem xcB_ok {K : PySem.W.Frag} {c f : Str} (h : xcB K c f = true) : XB K c f := by
  obtain ⟨h1, h⟩ := He.ba h
  obtain ⟨h2, h⟩ := He.ba h
  obtain ⟨h3, h⟩ := He.ba h
  obtain ⟨h4, h5⟩ := He.ba h
  exact ⟨oex_ok h1, He.eqO_ok h2, He.eqO_ok h3, of_decide_eq_true h4, of_decide_eq_true h5⟩
section
variable {P : Program} {w : World} {K : PySem.W.Frag} {mg : Str → Option Value} {base : Heap}
theorem xc_of {c f y qual : Str} {params : Arguments} {body : List Stmt} {scope : Scope} {fd : FuncData} (B : XB K c f) (F : FunD K "__init__" qual params body scope [] [] (He.ma K (He.ga K c) "__init__") fd) (S : FnScope ["self", y] ["self", y] scope) (b : Binds K fd ["self", y] [])
    (hb : ∀ (cdv : Value) (A : Around) (outer : List Env) (s : Shared) (H : Hp) (E : XK), PSs (cxOf (L2.CX P w) P w K mg base ["self", y] qual scope (He.ma K (He.ga K c) "__init__") cdv A outer s H E) body (tOst K f (tVar 0) (tVar 1))) : XC P w K mg base c f :=
  ⟨B.oex, B.at_, B.ty, fd, ["self", y], F.ok S (fun vs H Q E ⟨a, z, e, _, _⟩ => by rw [e]; rfl) (fun cdv A outer s H vs Q E hr ⟨a, z, e, ea, q⟩ => ⟨_, hb cdv A outer s H E, by
    subst e
    exact ⟨z, rfl, .ref a, rfl, a, _, rfl, B.oex, B.no_, .inl ⟨ea, fun dx n ne => q dx n ne⟩⟩⟩), b⟩
end
def cRaise (c f : Str) (ce : CE) : CS := fun env ah => match ce env ah with
  | .no => .no
  | .ok x ah1 => .er ⟨c, [(f, x)]⟩ ah1
  | .er x ah1 => .er x ah1
section
variable {X : Cx} {E : XK} {x c f : Str} {p pos pos' np : Pos} {e : Expr} {ce : CE} {k : Nat} {cb : CS} {body : List Stmt}
theorem takes_no : Takes X (fun _ _ _ _ => False) := fun u s' ⟨_, _, _, _, _, _, _, _, _, _, _, _, _, _, _, _, z⟩ => z.elim
theorem s_raise (XX : XC X.prog X.w X.K X.mg X.base c f) (hr : Room k X.A) (hk : 2 ≤ k) (tk : Takes X (fun cls d _ H => E cls d H)) (hm : X.mg c = some (.ref (He.ga X.K c))) (ha : PE X e (tE (kc X) E ce)) (hc : X.calm = true := by rfl) (hg : Gl X c := by rfl)
    (hdb : (c == ("__debug__" : Str)) = false := by decide) (hst : starEach [e] X.env = (false, eval e X.env) :: starEach [] X.env := by rfl) (hpl : (backTo pos (starEach [] X.env)).any (·.1) = false := by rfl) :
    PS X (.Raise (some (.Call (.Name c p) [e] [] pos)) none pos') (tS (kc X) E (cRaise c f ce)) := by
  obtain ⟨fd, ps, F, b⟩ := XX.ini
  refine ps_imp (ps_raise hc tk (pmk_oex (dvs := []) (ds := []) XX.oex XX.at_ XX.ty F (hr.mono hk) b .nil (passes_call takes_no fun _ _ _ _ h => h) hg hm (a_cons ha a_nil hst) hdb hst hpl)) fun D σ H ⟨ρ, ah, env, R, RE, q⟩ => ?_
  refine ⟨ρ, ah, env, R, RE, ?_⟩
  unfold cRaise at q
  unfold caCons bind
  cases hh : ce env ah with
  | no => rw [hh] at q; exact q
  | er x ah1 => rw [hh] at q; exact q
  | ok x ah1 =>
    rw [hh] at q
    intro ρ1 H1 vs e1 R1 rs
    cases rs with
    | cons r rs =>
    cases rs with
    | nil =>
    rename_i v
    refine ⟨by simp, fun a ha => ⟨a, v, rfl, upd_same, fun dx n ne => ⟨rfl, dx, [(f, v)], upd_same, ?_, ?_, ?_⟩⟩⟩
    · rw [upd_ne ne, upd_same]
    · rwa [upd_ne ne] at n
    · have n1 : H1 dx = none := by rwa [upd_ne ne] at n
      have eh : upd (del (upd (upd (upd H1 a (exo a (He.ga X.K c) none)) dx (exd dx [(f, v)])) a (exo a (He.ga X.K c) (some dx))) a) dx (.xd [(f, v)]) = upd H1 dx (.xd [(f, v)]) := by
        funext b
        by_cases h1 : b = dx
        · subst h1
          rw [upd_same, upd_same]
        · rw [upd_ne h1, upd_ne h1]
          by_cases h2 : b = a
          · subst h2
            rw [del_same, ha]
          · rw [del_ne h2, upd_ne h2, upd_ne h1, upd_ne h2]
      rw [eh]
      obtain ⟨R', e'⟩ := R1.grow (H' := upd H1 dx (.xd [(f, v)])) fun b w hb => by rw [upd_ne (ne_of_none hb n1)]; exact hb
      exact q ρ1 _ _ dx [(f, v)] (e1.trans e') R' hm upd_same ⟨rfl, .cons (r.mono e') .nil⟩

/-! ### try: .. except x: return None -/
def cTryN (c : CS) (x : Str) : CS := fun env ah => match c env ah with
  | .er e ah1 => if e.cls = x then .rt .non ah1 else .no
  | r => r
theorem s_tryN {jj} {p1 p2 : Pos} (hm : X.mg x = some (.ref (He.ga X.K x))) (hex : PySem.W.exmOne X.K (.ref (He.ga X.K x)) (.ref (He.ga X.K x)) = some true)
    (hb : ∀ (E' : XK) (pn : List (Addr × Obj)) (xe : Value → Shared → Prop), Takes (X.tr pn xe) (fun cls d _ H => E' cls d H) → PassesOwn (model X.prog X.w) X.A X.env xe → PSs (X.tr pn xe) body (tS (kc X) E' cb))
    (hg : Gl X x := by rfl) (hdb : (x == ("__debug__" : Str)) = false := by decide) (hs : X.stack = X.env :: X.outer := by rfl) (hf : X.env.frame = some X.env.locals := by rfl) :
    PS X (.Try body [.ExceptHandler (some (.Name x np)) none [.Return (some (.Constant .none jj p1)) p2] pos'] [] [] pos) (tS (kc X) E (cTryN cb x)) := by
  refine ps_imp (ps_try_only (Wout := fun _ _ _ _ => False) (tb := fun W => tS (kc X) (fun cls d H => ∀ σ, W cls d σ H) cb) (ts := fun _ _ _ => tRet (tC .non)) hs hf ⟨hg, hdb, .inl hm⟩ takes_no
    (fun W pn xe tk pp => hb _ pn xe (tk.imp fun c d σ H h => h σ) pp) (fun a oe cls d pn _ _ => pss_one (ps_ret pe_non))) fun D σ H ⟨ρ, ah, env, R, RE, q⟩ => ?_
  refine ⟨ρ, ah, env, R, RE, ?_⟩
  unfold cTryN at q
  cases hh : cb env ah with
  | no => rw [hh] at q; exact q
  | nx e ah1 => rw [hh] at q; exact q
  | bk e ah1 => rw [hh] at q; exact q
  | ct e ah1 => rw [hh] at q; exact q
  | rt e ah1 => rw [hh] at q; exact q
  | er e ah1 =>
    rw [hh] at q
    dsimp only at q
    split at q
    · rename_i hc
      intro ρ1 H1 a d ws e1 R1 ha hd hk σ1
      have ha2 : a = He.ga X.K x := by
        have z := (show X.mg e.cls = some (.ref a) from ha)
        rw [hc] at z
        simpa using z.symm.trans hm
      subst ha2
      refine ⟨true, hex, fun _ b hb => ?_, fun z => Bool.noConfusion z⟩
      exact q ρ1 H1 .non e1 R1 .non
    · exact (show False from q).elim
end
end Sm

set_option Elab.async false
set_option linter.all false
set_option maxRecDepth 100000
set_option maxHeartbeats 4000000
namespace Sm
open PySem PySem.Spec PyProof.Rows L2

/-! ### xs * k -/
def repM : AV → AV → CM AV := fun x y ah => match x, y with
  | .obj n, .int k => match ah[n]? with
    | some (.lst xs) => if 0 ≤ k ∧ k ≤ 1000 ∧ xs.length ≤ 1000 then .ok (.obj ah.length) (ah ++ [.lst (List.replicate k.toNat xs).flatten]) else .no
    | _ => .no
  | _, _ => .no
theorem rvs_rep {C : KC} {ρ : Nat → Addr} {n : Nat} {H : Hp} {xs : List AV} {vs : List V} (r : RVs C ρ n H xs vs) : ∀ k : Nat, RVs C ρ n H (List.replicate k xs).flatten (List.replicate k vs).flatten
  | 0 => .nil
  | k + 1 => by
    rw [List.replicate_succ, List.replicate_succ, List.flatten_cons, List.flatten_cons]
    exact r.append (rvs_rep r k)
theorem os_rep {C : KC} {E : XK} : OpS C E rRep repM := by
  intro ρ ah H x y vx vy Q R rx ry q
  unfold repM at q
  split at q
  · rename_i n k
    obtain ⟨hn, rfl⟩ := rx.obj_inv
    cases ry.int_inv
    split at q
    · rename_i xs e
      split at q
      · rename_i hk
        obtain ⟨vs, h1, h2⟩ := R.obj n _ e
        refine ⟨_, k, vs, rfl, rfl, h1, by omega, by omega, ?_, Aft.lst R q (rvs_rep h2 _)⟩
        rw [← h2.length, sizeLine_eq]
        have a1 : k.toNat ≤ 1000 := by omega
        calc xs.length * k.toNat ≤ 1000 * 1000 := Nat.mul_le_mul hk.2.2 a1
          _ ≤ _ := by decide
      · exact (show False from q).elim
    · exact (show False from q).elim
  · exact (show False from q).elim
theorem x_rep {X : Cx} {E : XK} {pos : Pos} {a b : Expr} {ca cb : CE} (ha : PE X a (tE (kc X) E ca)) (hb : PE X b (tE (kc X) E cb)) : PE X (.BinOp a .Mult b pos) (tE (kc X) E (cOp repM ca cb)) := e_op op_rep os_rep ha hb

/-! ### the first variable is not looked at, further -/
section
theorem ig_fld {cs : List Str} {f : Str} {c : CE} (h : Ig c) : Ig (cFld cs f c) := fun x y e => by unfold cFld; rw [h x y e]
theorem ig_not {t : CT} (h : Ig t) : Ig (cNot t) := fun x y e => by unfold cNot; rw [h x y e]
theorem ig_tru {c : CE} (h : Ig c) : Ig (cTru c) := fun x y e => by unfold cTru; rw [h x y e]
theorem ig_notV {c : CE} (h : Ig c) : Ig (cNotV c) := fun x y e => by unfold cNotV; rw [h x y e]
theorem ig_andV {a b : CE} (ha : Ig a) (hb : Ig b) : Ig (cAndV a b) := fun x y e => by unfold cAndV; rw [ha x y e, hb x y e]
theorem ig_orV {a b : CE} (ha : Ig a) (hb : Ig b) : Ig (cOrV a b) := fun x y e => by unfold cOrV; rw [ha x y e, hb x y e]
theorem ig_neg {a : CE} (ha : Ig a) : Ig (cNeg a) := fun x y e => by unfold cNeg; rw [ha x y e]
end
theorem igs_drop {c : CE} (hc : Ig c) : IgS (cDrop c) := fun x y e ah => by
  unfold cDrop
  rw [hc x y e]
  cases c (y :: e) ah with
  | no => exact .no
  | ok v ah1 => exact .nx _ _
  | er v ah1 => exact .er _ _

/-! ### a new start: where only few flat values are known, and what comes is seen for each -/
def avB : AV → AV → Bool
  | .int a, .int b => decide (a = b)
  | .str a, .str b => decide (a = b)
  | _, _ => false
theorem avB_eq {x y : AV} (h : avB x y = true) : x = y ∧ ∀ C ρ n H ρ' n' H' v, RV C ρ n H y v → RV C ρ' n' H' y v := by
  cases x <;> cases y <;> first | cases h | skip
  · rename_i a b
    cases (show a = b from of_decide_eq_true h)
    exact ⟨rfl, fun _ _ _ _ _ _ _ v r => by cases r.int_inv; exact .int _⟩
  · rename_i a b
    cases (show a = b from of_decide_eq_true h)
    exact ⟨rfl, fun _ _ _ _ _ _ _ v r => by cases r.str_inv; exact .str _⟩
/-- o knows no more than e -/
def lesE : AEnv → AEnv → Bool
  | [], [] => true
  | none :: o, _ :: e => lesE o e
  | some x :: o, some y :: e => avB x y && lesE o e
  | _, _ => false
theorem lesE_len : ∀ {o e : AEnv}, lesE o e = true → o.length = e.length
  | [], [], _ => rfl
  | none :: o, _ :: e, h => congrArg (· + 1) (lesE_len (o := o) (e := e) h)
  | some x :: o, some y :: e, h => congrArg (· + 1) (lesE_len (o := o) (e := e) (He.ba h).2)
  | some x :: o, none :: e, h => by cases h
  | [], _ :: _, h => by cases h
  | none :: _, [], h => by cases h
  | some _ :: _, [], h => by cases h
theorem lesE_get : ∀ {o e : AEnv} {i : Nat} {x : AV}, lesE o e = true → o[i]? = some (some x) → ∃ y, e[i]? = some (some y) ∧ avB x y = true
  | none :: o, z :: e, 0, x, h, q => by cases q
  | none :: o, z :: e, i + 1, x, h, q => by
    have h : lesE o e = true := h
    simpa using lesE_get h (by simpa using q)
  | some x :: o, some y :: e, 0, x', h, q => by
    cases q
    exact ⟨y, rfl, (He.ba h).1⟩
  | some x :: o, some y :: e, i + 1, x', h, q => by simpa using lesE_get (He.ba h).2 (by simpa using q)
  | [], [], i, x, h, q => by simp at q
  | some x :: o, none :: e, i, x', h, q => by cases h
  | [], _ :: _, i, x', h, q => by cases h
  | none :: _, [], i, x', h, q => by cases h
  | some _ :: _, [], i, x', h, q => by cases h
theorem renv_les {C : KC} {ρ ρ' : Nat → Addr} {n n' : Nat} {H H' : Hp} {o e : AEnv} {σ : L2.St} (h : lesE o e = true) (r : REnv C ρ n H e σ) : REnv C ρ' n' H' o σ := by
  refine ⟨(lesE_len h).trans r.1, fun i x q => ?_⟩
  obtain ⟨y, h1, h2⟩ := lesE_get h q
  obtain ⟨v, h3, h4⟩ := r.2 i y h1
  obtain ⟨e, k⟩ := avB_eq h2
  subst e
  exact ⟨v, h3, k _ _ _ _ _ _ _ _ h4⟩
/-- within a loop: the script stays known -/
def cFreshL (os : List AEnv) : CS := fun env ah => match env with
  | some (.fl xs) :: e => if (os.any fun o => lesE o e) = true then .nx (some (.fl xs) :: List.replicate e.length none) ah else .no
  | _ => .no
def okL : Out → Nat → Bool
  | .nx (_ :: e) _, n => e.length == n
  | _, _ => false
theorem okL_ex {c : CS} (hc : IgS c) {e : AEnv} {ah : AH} {n : Nat} (h : okL (c (none :: e) ah) n = true) (y : Option AV) : ∃ e' ah', c (y :: e) ah = .nx (y :: e') ah' ∧ e'.length = n := by
  have r := hc none y e ah
  generalize c (none :: e) ah = r1 at r h
  generalize hr2 : c (y :: e) ah = r2 at r
  cases r with
  | nx e1 ah1 => exact ⟨e1, ah1, rfl, by simpa [okL] using h⟩
  | _ => simp [okL] at h
section
variable {X : Cx} {E : XK} {st : List Stmt} {c : CS}
theorem s_freshL {os : List AEnv} (hb : PSs X st (tS (kc X) E c)) (hi : IgS c) (h : ∀ o ∈ os, okL (c (none :: o) []) o.length = true) : PSs X st (tS (kc X) E (cFreshL os)) := pss_imp hb fun D σ H ⟨ρ, ah, env, R, RE, q⟩ => by
  unfold cFreshL at q
  split at q
  · rename_i xs e
    split at q
    · rename_i hn
      obtain ⟨o, ho, hle⟩ := List.any_eq_true.mp hn
      obtain ⟨e', ah', e1, e2⟩ := okL_ex hi (h o ho) (some (.fl xs))
      obtain ⟨v0, s0, r0⟩ := RE.2 0 (.fl xs) rfl
      obtain ⟨p, rfl, f0⟩ := r0.fl_inv
      have hl := lesE_len hle
      refine ⟨ρ, [], some (.fl xs) :: o, ⟨fun i o h => by simp at h, fun i j h => by simp at h⟩, ⟨by rw [List.length_cons, hl]; exact RE.1, fun i x h => ?_⟩, ?_⟩
      · cases i with
        | zero =>
          cases h
          exact ⟨_, s0, .fl f0⟩
        | succ i =>
          obtain ⟨y, h1, h2⟩ := lesE_get hle (show o[i]? = some (some x) by simpa using h)
          obtain ⟨v, h3, h4⟩ := RE.2 (i + 1) y (by simpa using h1)
          obtain ⟨e, k⟩ := avB_eq h2
          subst e
          exact ⟨v, h3, k _ _ _ _ _ _ _ _ h4⟩
      · rw [e1]
        intro ρ1 H1 σ1 ex R1 RE1
        obtain ⟨v, t0, u0⟩ := RE1.2 0 (.fl xs) rfl
        obtain ⟨p1, rfl, f1⟩ := u0.fl_inv
        obtain ⟨R2, ex2⟩ := R.grow (H' := H1) fun b u h => ex.kp b u h (.inr fun i hi => absurd hi (Nat.not_lt_zero _))
        refine q ρ H1 σ1 ex2 R2 ⟨?_, fun i x h => ?_⟩
        · have l1 := RE1.1
          rw [List.length_cons, e2] at l1
          rw [List.length_cons, List.length_replicate, ← hl]
          exact l1
        · cases i with
          | zero =>
            cases h
            exact ⟨_, t0, .fl f1⟩
          | succ i =>
            simp only [List.getElem?_cons_succ, List.getElem?_replicate] at h
            split at h <;> cases h
    · exact (show False from q).elim
  · exact (show False from q).elim
/-- at a law's end: it gives True -/
def cFreshR (os : List AEnv) : CS := fun env ah => if (os.any fun o => lesE o env) = true then .rt (.bl true) ah else .no
def okR : Out → Bool
  | .rt (.bl true) _ => true
  | _ => false
theorem okR_ex {r : Out} (h : okR r = true) : ∃ ah, r = .rt (.bl true) ah := by
  cases r with
  | rt x ah =>
    cases x with
    | bl b => cases b with
      | true => exact ⟨ah, rfl⟩
      | false => cases h
    | _ => cases h
  | _ => cases h
theorem s_freshR {os : List AEnv} (hb : PSs X st (tS (kc X) E c)) (h : ∀ o ∈ os, okR (c o []) = true) : PSs X st (tS (kc X) E (cFreshR os)) := pss_imp hb fun D σ H ⟨ρ, ah, env, R, RE, q⟩ => by
  unfold cFreshR at q
  split at q
  · rename_i hn
    obtain ⟨o, ho, hle⟩ := List.any_eq_true.mp hn
    obtain ⟨ah', e1⟩ := okR_ex (h o ho)
    refine ⟨ρ, [], o, ⟨fun i o h => by simp at h, fun i j h => by simp at h⟩, renv_les hle RE, ?_⟩
    rw [e1]
    intro ρ1 H1 v ex R1 r
    obtain ⟨R2, ex2⟩ := R.grow (H' := H1) fun b u h => ex.kp b u h (.inr fun i hi => absurd hi (Nat.not_lt_zero _))
    cases r.bl_inv
    exact q ρ H1 _ ex2 R2 (.bl true)
  · exact (show False from q).elim
end

/-! ### a loop of one or two turns over the script -/
def cRngL : CIE := iRng1C (caCons (cB max2M (caCons (cC (.int 1)) (caCons (cB min2M (caCons (cC (.int 2)) (caCons (cB lenM (caCons (cVar 0) caNil)) caNil))) caNil))) caNil)
theorem rep_set {n : Nat} {x : Option AV} : ∀ {i : Nat}, True → True := fun _ => trivial
theorem loopG {xs : List Int} {m n : Nat} {body : CS} (hn : n ≤ 1000) (hb : ∀ (j : Int) (ah : AH), 0 ≤ j → j ≤ 1000 → ∃ ah', body (some (.fl xs) :: some (.int j) :: List.replicate m none) ah = .nx (some (.fl xs) :: List.replicate (m + 1) none) ah') :
    ∀ (f i : Nat) (z : Option AV) (ah : AH), n < f + i → i ≤ n → ∃ z' ah', forL (liR 0 n) (gNam 1) body f i (some (.fl xs) :: z :: List.replicate m none) ah = .nx (some (.fl xs) :: z' :: List.replicate m none) ah'
  | 0, i, z, ah, h, h2 => by omega
  | f + 1, i, z, ah, h, h2 => by
    by_cases hi : i < n
    · obtain ⟨ah1, e1⟩ := hb (0 + (i : Int)) ah (by omega) (by omega)
      obtain ⟨z', ah', e2⟩ := loopG hn hb f (i + 1) none ah1 (by omega) hi
      refine ⟨z', ah', ?_⟩
      rw [List.replicate_succ] at e1
      rw [← e2]
      simp only [forL, liR, if_pos hi, gNam, List.set_cons_succ, List.set_cons_zero, e1]
    · refine ⟨z, ah, ?_⟩
      simp only [forL, liR, if_neg hi]
def cLawL (body : CS) : CS := cSeq (cFor cRngL (gNam 1) body) (cRet (cC (.bl true)))
theorem lawG {xs : List Int} {m : Nat} {body : CS} (hb : ∀ (j : Int) (ah : AH), 0 ≤ j → j ≤ 1000 → ∃ ah', body (some (.fl xs) :: some (.int j) :: List.replicate m none) ah = .nx (some (.fl xs) :: List.replicate (m + 1) none) ah') :
    ∃ ah', cFn (m + 2) (cLawL body) [.fl xs] [] = .ok (.bl true) ah' := by
  let k : Int := if (if ((xs.length : Nat) : Int) < 2 then ((xs.length : Nat) : Int) else 2) > 1 then (if ((xs.length : Nat) : Int) < 2 then ((xs.length : Nat) : Int) else 2) else 1
  have hm0 : 1 ≤ k := by simp only [k]; split <;> omega
  have hm1 : k ≤ 2 := by simp only [k]; split <;> split <;> omega
  obtain ⟨z', ah', e⟩ := loopG (n := k.toNat) (by omega) hb FUEL 0 none [] (by show _ < 100000 + 0; omega) (Nat.zero_le _)
  refine ⟨ah', ?_⟩
  have s0 : ([AV.fl xs].map some ++ List.replicate (m + 2 - [AV.fl xs].length) none : AEnv) = some (.fl xs) :: none :: List.replicate m none := by
    rw [← List.replicate_succ]
    rfl
  have hz : k.natAbs < 2 ^ 60 := by omega
  have i1 : cRngL (some (.fl xs) :: none :: List.replicate m none) [] = .ok (liR 0 k.toNat) [] := by
    simp only [cRngL, iRng1C, caCons, caNil, cB, cC, cVar, Sm.bind, Sm.ret, max2M, min2M, lenM, lenOf, List.getElem?_cons_zero]
    rw [if_pos hz]
  unfold cFn cLawL
  rw [s0]
  simp only [cSeq, cFor, i1, e, cRet, cC]

/-! ### picks -/
def cPick : CS := cRet (cOp idxDM (cVar 1) (cCall 2 mDraw [] (caCons (cVar 0) (caCons (cB lenM (caCons (cVar 1) caNil)) caNil))))
def mPick : List AV → CM AV := cFn 2 cPick
theorem pick_ok {ah : AH} {d l s : Nat} {is : List Int} {st : Int} {vs : List AV} (D : DealAt ah d l is st) (hs : ah[s]? = some (.lst vs)) (sd : s ≠ d) (sl : s ≠ l) (h0 : 0 < vs.length) (h1 : vs.length < 1000) :
    ∃ ah' v is' st', mPick [.obj d, .obj s] ah = .ok v ah' ∧ v ∈ vs ∧ DealAt ah' d l is' st' ∧ DFr ah ah' d l := by
  obtain ⟨ah', r, is', st', e, r0, r1, D', _, fr⟩ := draw_ok (b := (vs.length : Int)) D (by omega) (by
    have : ((vs.length : Int)).natAbs.log2 ≤ 31 := log_le (by omega)
    omega)
  have hr : r.toNat < vs.length := by omega
  refine ⟨ah', vs[r.toNat], is', st', ?_, List.getElem_mem hr, D', fr⟩
  have hs' := fr s _ sd sl hs
  have ed : dctAt ah' (.obj s) = none := by simp [dctAt, hs']
  have ea : atI vs r = some vs[r.toNat] := by
    have z : ixN vs.length r = some r.toNat := by unfold ixN; rw [if_pos r0, if_pos r1]
    unfold atI
    rw [z, Option.bind_some, List.getElem?_eq_getElem hr]
  have s0 : ([AV.obj d, AV.obj s].map some ++ List.replicate (2 - [AV.obj d, AV.obj s].length) none : AEnv) = [some (.obj d), some (.obj s)] := rfl
  unfold mPick cFn cPick
  rw [s0]
  have el : lenM [.obj s] ah = .ok (.int (vs.length : Int)) ah := by simp [lenM, lenOf, hs]
  simp [cRet, cOp, Sm.bind, Sm.ret, cVar, cCall, caCons, caNil, cB, el, e, idxDM, ed, idxM, seqOf, lstAt_of hs', ea]
end Sm

set_option Elab.async false
set_option linter.all false
set_option maxRecDepth 100000
set_option maxHeartbeats 4000000
namespace Sm
open PySem PySem.Spec PyProof.Rows L2
theorem eval_call_attr (o : Expr) (name : Str) (apos : Pos) (args : List Expr) (kws : List Keyword) (pos : Pos) (env : Env) : eval (.Call (.Attribute o name apos) args kws pos) env = (do
    let ov ← attributeBase o name env (eval o env)
    standAt apos.atName
    methodCall o name apos pos env ov (args.length + kws.length) (backTo pos (starEach args env)) (backToKw pos (keywordEach kws env))) := by rfl
theorem ht_of {o : Expr} {name : Str} {apos : Pos} {args : List Expr} {kws : List Keyword} {pos : Pos} {env : Env} (hb : attributeBase o name env (eval o env) = eval o env) (hl : (apos.endLine == pos.line) = true) (hf : methodCallForm (args.length + kws.length) (backTo pos (starEach args env)) (backToKw pos (keywordEach kws env)) = true) :
    eval (.Call (.Attribute o name apos) args kws pos) env = (do
      let ov ← eval o env
      standAt apos.atName
      let (f, first) ← holding [ov] (getMethod ov name (do return (← importBound o env).getD true))
      callWith pos f first (backTo pos (starEach args env)) (backToKw pos (keywordEach kws env))) := by
  rw [eval_call_attr, hb]
  unfold methodCall methodCallPos
  simp only [hf, hl, Bool.not_true, Bool.false_or, if_true, calleeOf, pure_bind]
end Sm

set_option Elab.async false
set_option linter.all false
set_option maxRecDepth 100000
set_option maxHeartbeats 4000000
namespace Sm
open PySem PySem.Spec PyProof.Rows L2
open PySem.AutoSeq1 in
theorem ext_tup (l b : Addr) (xs ys : Array Value) (k j : Nat) (dd : Option Addr) (ss : Array (Option Value)) (h0 : ¬(!xs.isEmpty && Builtin.List.listTooLong (xs.size + ys.size)) = true) (h1 : xs.size ≤ sizeLine) (h2 : xs.size + ys.size ≤ sizeLine + 1) :
    Meets (Builtin.«list.extend» ⟨[.ref l, .ref b], []⟩) (fun _ R s => s.heap.get? l = some { cls := .type "list", dict := none, data := .seq xs k, slots := #[] } ∧ s.heap.get? b = some { cls := .type "tuple", dict := dd, data := .seq ys j, slots := ss } ∧
      R (.ok (.ret Value.none)) { s with heap := s.heap.update l (Obj.mapSeq fun x => x ++ ys), toks := s.toks }) := by
  refine .of_wp fun prog w A R s h => ?_
  obtain ⟨hp, g, d, tk, os⟩ := s
  obtain ⟨a1, a2, a3⟩ := h
  have a4 : (xs ++ ys).size ≤ sizeLine + 1 := by rw [Array.size_append]; exact h2
  have f1 := AutoSeq1.idx_int
  have f2 := AutoSeq1.sub_tuple_tuple
  have f3 := AutoSeq1.sub_list_list
  have f4 := AutoSeq1.sub_tuple_list
  have f5 := AutoSeq1.sub_list_tuple
  wp_walk using (wpAny_updateSeq a1 rfl (hz := h1) (_hz' := a4)), wpAny_loadPart' a1, wpAny_loadPart' a2
  exact ⟨_, rfl, a3⟩
def rExtT (K : PySem.W.Frag) : V → List V → Hp → VK → Prop := fun x vs H Q => ∃ l b xs zs, x = .ref l ∧ vs = [.ref b] ∧ H l = some (.lst xs) ∧ SqT K H b zs ∧ xs.length + zs.length ≤ LIM ∧ Q .non (upd H l (.lst (xs ++ zs)))
theorem mt_extT {X : Cx} : MtM X "list.extend" (rExtT X.K) := by
  intro pins s σ H x vs v us Q I rx rv h
  obtain ⟨l, b, xs, zs, rfl, rfl, hH, hB, hz, q⟩ := h
  cases rx
  obtain ⟨u, rfl, ru⟩ := rv.one
  cases ru
  obtain ⟨z, its, n, r, hl, e⟩ := I.lstM hH
  obtain ⟨its2, r2, ⟨ob, e2, c2, n2, d2⟩, hz2⟩ := I.tuple hB
  obtain ⟨oc, od, odt, osl⟩ := ob
  dsimp only at c2 d2
  subst c2 d2
  have hl2 : zs.length = its2.length := r2.length
  have hlm : LIM ≤ sizeLine := lim_line
  have hsz : its.toArray.size + its2.toArray.size ≤ sizeLine := by rw [List.size_toArray, List.size_toArray]; omega
  have hlong : ¬ (!its.toArray.isEmpty && Builtin.List.listTooLong (its.toArray.size + its2.toArray.size)) = true := by
    rw [notLongL hsz, Bool.and_false]
    exact Bool.false_ne_true
  refine call_meets F.slot_list_extend ⟨_, e, rfl⟩ F.entry_list_extend (F.args_list_extend_2 _ _) (ext_tup l b its.toArray its2.toArray n n2 od osl hlong (by rw [List.size_toArray]; omega) (by omega)) ⟨e, e2, ?_⟩
  refine ⟨.non, _, I.lset (its' := its ++ its2) hH e (by simp) (r.append r2) ?_, rfl, q⟩
  rw [List.length_append]
  omega
def extTM : AV → List AV → CM AV := fun x ys ah => match x, ys with
  | .obj n, [.tup zs] => match ah[n]? with
    | some (.lst xs) => if xs.length + zs.length ≤ LIM then .ok .non (ah.set n (.lst (xs ++ zs))) else .no
    | _ => .no
  | _, _ => .no
theorem ms_extT {C : KC} {E : XK} : MtS C E (rExtT C.K) extTM := by
  intro ρ ah H x ys v vs Q R rx rs q
  unfold extTM at q
  split at q
  · rename_i n zs
    obtain ⟨w, rfl, rw'⟩ := rs.one_inv
    obtain ⟨p, us, rfl, h3, h4⟩ := rw'.tup_inv
    obtain ⟨hn, rfl⟩ := rx.obj_inv
    split at q
    · rename_i xs e1
      obtain ⟨vs, h1, h2⟩ := R.obj _ _ e1
      split at q
      · refine ⟨_, _, vs, us, rfl, rfl, h1, h3, ?_, Aft.chg R e1 h1 q (h2.append h4) .non⟩
        rw [← h2.length, ← h4.length]
        assumption
      · exact (show False from q).elim
    · exact (show False from q).elim
  · exact (show False from q).elim
end Sm

set_option Elab.async false
set_option linter.all false
set_option maxRecDepth 100000
set_option maxHeartbeats 4000000
namespace Sm
open PySem PySem.Spec PyProof.Rows L2

/-! ### len(set(xs)): xs a list or tuple of tuples of ints -/
abbrev NT := Addr × List Int
abbrev ledO (w : PySem.World) : Obj := { cls := .type "set", dict := none, data := .set #[] 0 (.fresh 0 0 (!w.params.followText "set-order")) }
theorem init_setT {P : Program} {w : PySem.World} {A : Around} {E : Value → Shared → Prop} {s : Shared} {b : Bool} {l a : Addr} {items : Array Value} {ks : List NT} {Q : Fin → Shared → Prop} (hh : A.handled = none) (h0 : Heap) (hl0 : SrX b h0 l items) (kp0 : ∀ c o, h0.get? c = some o → s.heap.get? c = some o)
    (ha : s.heap.get? a = some (ledO w)) (ha0 : h0.get? a = none) (hn0 : h0.get? s.heap.objs.size = none) (hit : items.toList = ks.map fun p => Value.ref p.1) (hk : ∀ p ∈ ks, IsT P w h0 p.2 p.1) (hfew : ks.length < 64) (hu : A.units + 1 < cLine)
    (h : ∀ h' tk L es ep t, SetTR P w h' a L es ep t → Got ks ks.length L → (∀ c o, h0.get? c = some o → h'.get? c = some o) → Q (.done (.ret .none)) { s with heap := h', toks := tk }) :
    wpAny (model P w) A (Builtin.«set.__init__» ⟨[.ref a, .ref l], []⟩) Q E s := by
  have hl : SrX b s.heap l items := (begX b l items).keeps _ _ hl0 kp0
  obtain ⟨⟨cls, dd, dat, sl⟩, n, hol, hc, hd⟩ := srx_obj hl
  simp only at hc hd
  subst hc
  subst hd
  have e1 := subX b
  have e2 := subX2 b
  have e3 : (Value.type (tyX b) == Value.type "dict") = false := by cases b <;> decide
  have aI : a ≠ s.heap.objs.size := Nat.ne_of_lt (Heap.lt_size ha)
  have lI : l ≠ s.heap.objs.size := Nat.ne_of_lt (Heap.lt_size hol)
  have al : a ≠ l := fun z => by
    obtain ⟨o, n, ho, _⟩ := srx_obj hl0
    rw [← z, ha0] at ho
    cases ho
  have hisz : items.size = ks.length := by
    have q := congrArg List.length hit
    rwa [Array.length_toList, List.length_map] at q
  have hval : ∀ (i : Nat) (v : Value), items[i]? = some v → ∃ p, ks[i]? = some p ∧ v = .ref p.1 := fun i v hv => by
    rw [← Array.getElem?_toList, hit, List.getElem?_map] at hv
    cases hq : ks[i]? with
    | none => rw [hq] at hv; cases hv
    | some p =>
      rw [hq] at hv
      exact ⟨p, rfl, (Option.some.inj hv).symm⟩
  have fin : wpAny (model P w) A (runValue (.builtin "set.update.loop" ⟨[.ref a, .ref s.heap.objs.size], []⟩)) (fun _ s' => Q (.done (.ret .none)) s') E { s with heap := s.heap.push (itObj b l) } := by
    refine wpAny_runValue (set_update_tups (P := P) (w := w) ((wkX (prog := P) (w := w) (A := A.in1) b hh lI items).toS) a ?_ ks hisz hfew hval h0 hk ha0 (fun c hc => ?_) (by show A.units + 1 < cLine; exact hu) (items.size - 0) 0 _ (by omega) (Nat.zero_le _)
      ⟨itx_new (Heap.get?_push_size _ (by cases b <;> rfl)), (begX b l items).keeps _ _ hl fun c o e => Heap.get?_push_of_some _ e⟩ (fun c o e => Heap.get?_push_of_some _ (kp0 c o e)) ?_ ?_)
    · simp only [List.mem_cons, List.not_mem_nil, or_false, not_or]
      exact ⟨aI, al⟩
    · rw [List.mem_singleton.mp hc]
      exact hn0
    · exact ⟨[], #[], 0, _, setTR_fresh (Heap.get?_push_of_some _ ha), Got.zero ks⟩
    · intro s' L es ep t hm hS g kp
      obtain ⟨h', g2, d', tk', os'⟩ := s'
      have eg : g2 = s.gens := hm.gens
      have ed : d' = s.drawn := hm.drawn
      have eo : os' = s.os := hm.os
      subst eg ed eo
      rw [hisz] at g
      exact h h' tk' L es ep t hS g kp
  unfold Builtin.«set.__init__» noKeywords Builtin.Frozenset.updateFrom
  have pi : ∀ (A : Around) (E : Value → Shared → Prop) (Q : Value → Shared → Prop), Q (.ref s.heap.objs.size) { s with heap := s.heap.push (itObj b l) } → wpAny (model P w) A (pyIter (.ref l)) Q E s := fun A E Q q => (begX b l items).iter P w A E s Q hl q
  generalize pyIter = PI at pi ⊢
  wp_walk
  exact pi _ _ _ (wpAny_bind (wpAny_mono fin (fun _ _ q => wpAny_pure (wpAny_pure q)) fun _ _ e => e))
theorem call_setT {P : Program} {w : PySem.World} {A : Around} {E : Value → Shared → Prop} {s : Shared} {b : Bool} {l : Addr} {items : Array Value} {ks : List NT} {Q : Value → Shared → Prop} (hh : A.handled = none) (hl : SrX b s.heap l items)
    (hit : items.toList = ks.map fun p => Value.ref p.1) (hk : ∀ p ∈ ks, IsT P w s.heap p.2 p.1) (hfew : ks.length < 64) (hu : A.units + 4 < cLine)
    (h : ∀ h' tk L es ep t, SetTR P w h' s.heap.objs.size L es ep t → Got ks ks.length L → (∀ c o, s.heap.get? c = some o → h'.get? c = some o) → Q (.ref s.heap.objs.size) { s with heap := h', toks := tk }) :
    wpAny (model P w) A (call (.type "set") [.ref l]) Q E s := by
  obtain ⟨c, tl, m1⟩ := PySem.F.called_set.mro
  have m2 := PySem.F.called_set.made
  have m3 := PySem.F.called_set.sub
  have m4 := PySem.F.called_set.notType
  have m5 := PySem.F.called_set.canCreate
  have m6 := PySem.F.typeCall_set_1 (.ref l)
  refine wpAny_call (codeAny_of_tree (wpAny_pure ⟨Code.quiet_builtin _ (by decide +kernel), codeAny_builtin PySem.F.entry_type_call ?_⟩))
  rw [Around.under_plain (weight_type_call_type "set" [.ref l] []) rfl]
  repeat (any_goals (first | assumption | wp_step))
  refine codeAny_mono (code_set_led1 (.ref l) (E := E) (Q₁ := fun z s1 => z = .ref s.heap.objs.size ∧ s1 = { s with heap := s.heap.push (ledO w) }) ⟨rfl, rfl⟩) fun r s1 hr => ?_
  cases r with
  | error e => exact hr
  | ok fl => cases fl with
    | ret z =>
      obtain ⟨rfl, rfl⟩ := hr
      have g : (s.heap.push (ledO w)).get? s.heap.objs.size = some (ledO w) := Heap.get?_push_size _ rfl
      have T : Shared.TypeIs { s with heap := s.heap.push (ledO w) } (.ref s.heap.objs.size) "set" := ⟨_, g, rfl⟩
      have i1 := PySem.F.called_set.init.lookup
      have i2 := PySem.F.called_set.init.bind (.ref s.heap.objs.size)
      have none_of : ∀ b, s.heap.objs.size ≤ b → s.heap.get? b = none := fun b hb => by
        cases q : s.heap.get? b with
        | none => rfl
        | some o => exact absurd (Nat.lt_of_lt_of_le (Heap.lt_size q) hb) (Nat.lt_irrefl _)
      repeat (any_goals (first | assumption | wp_step))
      refine codeAny_mono (codeAny_call_builtin (R := wants (fun r s2 => r = .none ∧ ∃ h' tk L es ep t, s2 = { s with heap := h', toks := tk } ∧ SetTR P w h' s.heap.objs.size L es ep t ∧ Got ks ks.length L ∧ ∀ c o, s.heap.get? c = some o → h'.get? c = some o) E)
        PySem.F.called_set.init.plain PySem.F.entry_set_init (check_set_init_1 T (init_setT (by simpa using hh) s.heap hl (fun c o e => Heap.get?_push_of_some _ e) g (none_of _ (Nat.le_refl _)) (none_of _ (by
          show s.heap.objs.size ≤ (s.heap.push (ledO w)).objs.size
          rw [Heap.size_push]
          exact Nat.le_succ _)) hit hk hfew (by show A.units + 1 + 1 + 1 < cLine; omega) fun h' tk L es ep t hS gg kp => ?_))) fun r2 s2 hr2 => ?_
      · exact ⟨rfl, h', tk, L, es, ep, t, rfl, hS, gg, kp⟩
      · cases r2 with
        | error e => exact hr2
        | ok f2 => cases f2 with
          | ret z2 =>
            obtain ⟨rfl, h', tk, L, es, ep, t, rfl, hS, gg, kp⟩ := hr2
            repeat (any_goals (first | assumption | wp_step))
            exact h _ _ _ _ _ _ hS gg kp
          | _ => exact hr2.elim
    | _ => exact hr.elim
theorem nodup_le {α : Type} [DecidableEq α] : ∀ (A B : List α), A.Nodup → (∀ x ∈ A, x ∈ B) → A.length ≤ B.length
  | [], B, _, _ => Nat.zero_le _
  | a :: A, B, h, k => by
    have h1 := List.nodup_cons.mp h
    have ha : a ∈ B := k a List.mem_cons_self
    have := nodup_le A (B.erase a) h1.2 fun x hx => (List.mem_erase_of_ne (show x ≠ a from fun e => h1.1 (by rw [← e]; exact hx))).mpr (k x (List.mem_cons_of_mem _ hx))
    rw [List.length_erase_of_mem ha] at this
    have := List.length_pos_of_mem ha
    rw [List.length_cons]
    omega
def addT (seen : List (List Int)) (k : List Int) : List (List Int) := if k ∈ seen then seen else seen ++ [k]
def addsT (ks : List (List Int)) : List (List Int) := ks.foldl addT []
theorem addT_mem {seen : List (List Int)} {k x : List Int} : x ∈ addT seen k ↔ x ∈ seen ∨ x = k := by
  unfold addT
  split
  · rename_i h
    exact ⟨.inl, fun z => z.elim id fun e => e ▸ h⟩
  · simp
theorem addT_nodup {seen : List (List Int)} {k : List Int} (h : seen.Nodup) : (addT seen k).Nodup := by
  unfold addT
  split
  · exact h
  · rename_i hk
    rw [List.nodup_append]
    refine ⟨h, by simp, fun a ha b hb e => ?_⟩
    rw [List.mem_singleton.mp hb] at e
    exact hk (e ▸ ha)
theorem addsT_ok : ∀ (ks seen : List (List Int)), seen.Nodup → (ks.foldl addT seen).Nodup ∧ ∀ x, x ∈ ks.foldl addT seen ↔ x ∈ seen ∨ x ∈ ks
  | [], seen, h => ⟨h, fun x => by simp⟩
  | k :: ks, seen, h => by
    obtain ⟨h1, h2⟩ := addsT_ok ks (addT seen k) (addT_nodup h)
    refine ⟨h1, fun x => ?_⟩
    rw [List.foldl_cons, h2, addT_mem, List.mem_cons, or_assoc]
theorem got_len {ks L : List NT} (nd : (L.map (·.2)).Nodup) (g : Got ks ks.length L) : L.length = (addsT (ks.map (·.2))).length := by
  obtain ⟨h1, h2⟩ := addsT_ok (ks.map (·.2)) [] List.nodup_nil
  have hs : ∀ x ∈ L.map (·.2), x ∈ addsT (ks.map (·.2)) := fun x hx => by
    obtain ⟨p, hp, rfl⟩ := List.mem_map.mp hx
    exact (h2 _).mpr (.inr (List.mem_map.mpr ⟨p, List.mem_of_mem_take (g.sub p hp), rfl⟩))
  have ha : ∀ x ∈ addsT (ks.map (·.2)), x ∈ L.map (·.2) := fun x hx => by
    rcases (h2 x).mp hx with z | z
    · cases z
    · obtain ⟨p, hp, rfl⟩ := List.mem_map.mp z
      exact g.all p (by rw [List.take_length]; exact hp)
  have a1 := nodup_le _ _ nd hs
  have a2 := nodup_le _ _ h1 ha
  rw [List.length_map] at a1
  exact Nat.le_antisymm a1 (Nat.le_trans a2 (by rw [List.length_map]; exact Nat.le_refl _))
def tLenSetT (K : PySem.W.Frag) (ta : TE) : TE := fun σ H Q => ta σ H fun x H1 => ∃ (b : Bool) (l : Addr) (ks : List NT), x = .ref l ∧ SqX K b H1 l (ks.map fun p => V.ref p.1) ∧ (∀ p ∈ ks, SqT K H1 p.1 (p.2.map V.int)) ∧ ks.length < 64 ∧ Q (.int (addsT (ks.map (·.2))).length) H1
theorem pe_lenSetT {X : Cx} {k : Nat} {a : Expr} {ta : TE} {p p2 q pos : Pos} (hr : Room k X.A) (hc : X.calm = true) (hm : X.mg "len" = none) (hm2 : X.mg "set" = none) (ha : PE X a ta) (hg : Gl X "len" := by rfl) (hg2 : Gl X "set" := by rfl)
    (na : starEach [a] X.env = (false, eval a X.env) :: starEach [] X.env := by rfl) : PE X (.Call (.Name "len" p) [.Call (.Name "set" p2) [a] [] q] [] pos) (tLenSetT X.K ta) := ⟨fun pins s σ H Q I h => by
  refine Call_ (ld_blt I hg hm boot_len (PyProof.Rows.callWith_builtin1 (PyProof.Rows.args_cons (Call_ (ld_blt I hg2 hm2 boot_set (PyProof.Rows.callWith_type1 (PyProof.Rows.args_cons (thn (ha.run pins s σ H _ I h) fun v s1 ⟨x, H1, I1, r1, q1⟩ => PyProof.Rows.args_nil ?_) na) na rfl))) rfl) rfl rfl))
  obtain ⟨b, l, ks, rfl, hq, hk, hz, q1⟩ := q1
  cases (show v = Value.ref l from r1)
  obtain ⟨its, r, sr, _⟩ := sqx_at I1 hq
  refine call_setT (b := b) (ks := ks) (I1.ok.hd hc) sr (by simpa using refs_of_vals r) (fun p hp => I1.isT (hk p hp)) hz (by have := hr.un; omega) fun h' tk L es ep t hS g kp => ?_
  · have I2 := I1.kept (h' := h') (t' := tk) kp
    obtain ⟨o, ho, hex, hd⟩ := hS.ob
    have hn : es.size = L.length := SetTR.size (s := ⟨h', s1.gens, s1.drawn, tk, s1.os⟩) hS
    have hf : t.fits es.size = true := SetTR.fits (s := ⟨h', s1.gens, s1.drawn, tk, s1.os⟩) hS
    have hl := got_len hS.nd g
    have h3 := g.len
    refine PyProof.Rows.args_nil (call_len_set ho hex hd hf (by rw [hn]; omega) ⟨.int (addsT (ks.map (·.2))).length, H1, I2.tok _, ⟨_, by rw [hn, hl]⟩, q1⟩)⟩
def intsA : List AV → Option (List Int)
  | [] => some []
  | .int i :: r => (intsA r).map (i :: ·)
  | _ :: _ => none
def tupsI : List AV → Option (List (List Int))
  | [] => some []
  | .tup xs :: r => match intsA xs, tupsI r with
    | some k, some ks => some (k :: ks)
    | _, _ => none
  | _ :: _ => none
theorem intsA_rel {C : KC} {ρ : Nat → Addr} {n : Nat} {H : Hp} : ∀ {xs : List AV} {vs : List V} {k : List Int}, RVs C ρ n H xs vs → intsA xs = some k → vs = k.map V.int
  | _, _, _, .nil, h => by cases h; rfl
  | .int i :: xs, _, k, .cons r q, h => by
    unfold intsA at h
    cases e : intsA xs with
    | none => rw [e] at h; cases h
    | some k' =>
      rw [e] at h
      cases h
      rw [r.int_inv, intsA_rel q e]
      rfl
  | .non :: _, _, _, _, h => by cases h
  | .bl _ :: _, _, _, _, h => by cases h
  | .str _ :: _, _, _, _, h => by cases h
  | .tup _ :: _, _, _, _, h => by cases h
  | .obj _ :: _, _, _, _, h => by cases h
  | .glo _ :: _, _, _, _, h => by cases h
  | .ty _ :: _, _, _, _, h => by cases h
  | .fl _ :: _, _, _, _, h => by cases h
theorem tupsI_rel {C : KC} {ρ : Nat → Addr} {n : Nat} {H : Hp} : ∀ {xs : List AV} {vs : List V} {ks : List (List Int)}, RVs C ρ n H xs vs → tupsI xs = some ks →
    ∃ ps : List NT, vs = ps.map (fun p => V.ref p.1) ∧ ps.map (·.2) = ks ∧ ∀ p ∈ ps, SqT C.K H p.1 (p.2.map V.int)
  | _, _, _, .nil, h => by cases h; exact ⟨[], rfl, rfl, fun p hp => by cases hp⟩
  | .tup xs :: ys, _, ks, .cons r q, h => by
    unfold tupsI at h
    split at h
    · rename_i k ks' e1 e2
      cases h
      obtain ⟨a, us, rfl, h1, h2⟩ := r.tup_inv
      cases intsA_rel h2 e1
      obtain ⟨ps, rfl, e3, h3⟩ := tupsI_rel q e2
      exact ⟨(a, k) :: ps, rfl, by rw [List.map_cons, e3], fun p hp => (List.mem_cons.mp hp).elim (fun e => e ▸ h1) (h3 p)⟩
    · cases h
  | .non :: _, _, _, _, h => by cases h
  | .bl _ :: _, _, _, _, h => by cases h
  | .str _ :: _, _, _, _, h => by cases h
  | .int _ :: _, _, _, _, h => by cases h
  | .obj _ :: _, _, _, _, h => by cases h
  | .glo _ :: _, _, _, _, h => by cases h
  | .ty _ :: _, _, _, _, h => by cases h
  | .fl _ :: _, _, _, _, h => by cases h
def cLenSetT (c : CE) : CE := fun env => bind (c env) fun x ah => match seqOf x ah with
  | none => .no
  | some xs => match tupsI xs with
    | none => .no
    | some ks => if ks.length < 64 then .ok (.int (addsT ks).length) ah else .no
theorem x_lenSetT {X : Cx} {E : XK} {k : Nat} {a : Expr} {c : CE} {p p2 q pos : Pos} (hr : Room k X.A) (hc : X.calm = true) (hm : X.mg "len" = none) (hm2 : X.mg "set" = none) (ha : PE X a (tE (kc X) E c)) (hg : Gl X "len" := by rfl) (hg2 : Gl X "set" := by rfl)
    (na : starEach [a] X.env = (false, eval a X.env) :: starEach [] X.env := by rfl) : PE X (.Call (.Name "len" p) [.Call (.Name "set" p2) [a] [] q] [] pos) (tE (kc X) E (cLenSetT c)) := pe_imp (pe_lenSetT hr hc hm hm2 ha hg hg2 na) fun σ H Q ⟨ρ, ah, env, R, RE, q⟩ => by
  refine ⟨ρ, ah, env, R, RE, ?_⟩
  unfold cLenSetT bind at q
  cases ha : c env ah with
  | no => rw [ha] at q; exact q
  | er x ah1 => rw [ha] at q; exact q
  | ok x ah1 =>
    rw [ha] at q
    intro ρ1 H1 v e1 R1 r
    replace q := Aft.pre e1 q
    dsimp only at q
    split at q
    · exact (show False from q).elim
    · rename_i xs hx
      split at q
      · exact (show False from q).elim
      · rename_i ks hk
        split at q
        · obtain ⟨p, vs, rfl, hs, rs⟩ := R1.seq r hx
          obtain ⟨ps, rfl, e3, h3⟩ := tupsI_rel rs hk
          subst e3
          have hz : ps.length < 64 := by
            rename_i hz
            rwa [List.length_map] at hz
          rcases hs with hs | hs
          · exact ⟨true, p, ps, rfl, hs, h3, hz, Aft.here R1 q (.int _)⟩
          · exact ⟨false, p, ps, rfl, hs, h3, hz, Aft.here R1 q (.int _)⟩
        · exact (show False from q).elim
end Sm

set_option Elab.async false
set_option linter.all false
set_option maxRecDepth 100000
set_option maxHeartbeats 4000000
namespace Sm
open PySem PySem.Spec PyProof.Rows L2
/-! ### a, b = x: x a tuple or a list -/
theorem pg_or {X : Cx} {tg : Expr} {t u : TG} (h1 : PG X tg t) (h2 : PG X tg u) : PG X tg (fun v σ H Q => t v σ H Q ∨ u v σ H Q) := ⟨fun pins s σ H v u Q I r q => q.elim (h1.run pins s σ H v u Q I r) (h2.run pins s σ H v u Q I r)⟩
def gSeqM (n : Nat) (gs : CGs) : CG := fun x env ah => match seqOf x ah with
  | some xs => if xs.length = n then gs xs env ah else .no
  | none => .no
theorem h_seq {X : Cx} {E : XK} {pos : Pos} {es : List Expr} {gs : CGs} {S : List Nat} {k n : Nat} (hc : X.calm = true) (h : PGs X es (tGss (kc X) E gs S)) (hn : (assignEach es X.env).length = n := by rfl) (hst : (assignEach es X.env).findIdx? (·.1) = none := by rfl) : PG X (.Tuple es k pos) (tGs (kc X) E (gSeqM n gs) S) := pg_imp (pg_or (pg_tup hc h hn hst) (pg_lst hc h hn hst)) fun v σ H Q ⟨ρ, ah, env, x, R, RE, r, q⟩ => by
  unfold gSeqM at q
  split at q
  · rename_i xs hx
    split at q
    · rename_i hl
      obtain ⟨p, vs, rfl, hs, rs⟩ := R.seq r hx
      rcases hs with hs | hs
      · exact .inl ⟨p, vs, rfl, hs, by rw [← rs.length]; exact hl, ρ, ah, env, xs, R, RE, rs, q⟩
      · exact .inr ⟨p, vs, rfl, hs, by rw [← rs.length]; exact hl, ρ, ah, env, xs, R, RE, rs, q⟩
    · exact (show False from q).elim
  · exact (show False from q).elim
theorem gok_seq {n : Nat} {gs : CGs} (h : GsOk gs) : GOk (gSeqM n gs) := fun x env ah => by
  unfold gSeqM
  cases seqOf x ah with
  | none => exact trivial
  | some xs =>
    dsimp only
    by_cases e : xs.length = n
    · rw [if_pos e]
      exact h xs env ah
    · rw [if_neg e]
      exact trivial
end Sm

set_option Elab.async false
set_option linter.all false
set_option maxRecDepth 100000
set_option maxHeartbeats 4000000
namespace Sm
open PySem PySem.Spec PyProof.Rows L2

/-! ### a body run piece by piece over written states, what is out of reach let go -/
abbrev KS := AEnv × AH
mutual
def gcV (s : List Nat) : AV → AV → Bool
  | .non, .non => true
  | .bl a, .bl b => a == b
  | .int a, .int b => decide (a = b)
  | .str a, .str b => decide (a = b)
  | .glo a, .glo b => decide (a = b)
  | .ty a, .ty b => decide (a = b)
  | .obj i, .obj j => s[j]? == some i
  | .tup xs, .tup ys => gcVs s xs ys
  | _, _ => false
def gcVs (s : List Nat) : List AV → List AV → Bool
  | [], [] => true
  | x :: xs, y :: ys => gcV s x y && gcVs s xs ys
  | _, _ => false
end
def gcO (s : List Nat) : AO → AO → Bool
  | .lst xs, .lst ys => gcVs s xs ys
  | .dct xs, .dct ys => decide (xs.map (·.1) = ys.map (·.1)) && gcVs s (xs.map (·.2)) (ys.map (·.2))
  | .ins c xs, .ins d ys => decide (c = d) && (decide (xs.map (·.1) = ys.map (·.1)) && gcVs s (xs.map (·.2)) (ys.map (·.2)))
  | _, _ => false
def gcE (s : List Nat) : AEnv → AEnv → Bool
  | [], [] => true
  | _ :: e, none :: f => gcE s e f
  | some x :: e, some y :: f => gcV s x y && gcE s e f
  | _, _ => false
def gcH (s : List Nat) (a : AH) : List Nat → AH → Bool
  | [], [] => true
  | i :: t, p :: b => (match a[i]? with | some o => gcO s o p | none => false) && gcH s a t b
  | _, _ => false
def gcB (s : List Nat) (e1 : AEnv) (a1 : AH) (p : KS) : Bool := gcE s e1 p.1 && (gcH s a1 s p.2 && decide s.Nodup)
section
variable {C : KC} {ρ : Nat → Addr} {n : Nat} {H : Hp} {s : List Nat}
abbrev rsel (ρ : Nat → Addr) (s : List Nat) : Nat → Addr := fun j => ρ (s.getD j 0)
mutual
theorem gcV_ok : ∀ {x y : AV} {v : V}, gcV s x y = true → RV C ρ n H x v → RV C (rsel ρ s) s.length H y v
  | .non, .non, _, _, r => by cases r.non_inv; exact .non
  | .bl a, .bl b, _, h, r => by
    cases r.bl_inv
    have : a = b := by simpa [gcV] using h
    subst this
    exact .bl _
  | .int a, .int b, _, h, r => by
    cases r.int_inv
    cases (show a = b from of_decide_eq_true h)
    exact .int _
  | .str a, .str b, _, h, r => by
    cases r.str_inv
    cases (show a = b from of_decide_eq_true h)
    exact .str _
  | .glo a, .glo b, _, h, r => by
    cases (show a = b from of_decide_eq_true h)
    cases r
    exact .glo ‹_›
  | .ty a, .ty b, _, h, r => by
    cases (show a = b from of_decide_eq_true h)
    cases r
    exact .ty _
  | .obj i, .obj j, _, h, r => by
    obtain ⟨hi, rfl⟩ := r.obj_inv
    have e : s[j]? = some i := by simpa [gcV] using h
    have hj := (List.getElem?_eq_some_iff.mp e).1
    have z : RV C (rsel ρ s) s.length H (.obj j) (.ref (rsel ρ s j)) := .obj hj
    have e2 : rsel ρ s j = ρ i := by
      show ρ (s.getD j 0) = ρ i
      rw [List.getD_eq_getElem?_getD, e]
      rfl
    rw [e2] at z
    exact z
  | .tup xs, .tup ys, _, h, r => by
    obtain ⟨p, vs, rfl, h1, h2⟩ := r.tup_invN
    exact .tup h1 (gcVs_ok (show gcVs s xs ys = true from h) h2)
  | .non, .bl _, _, h, _ | .non, .int _, _, h, _ | .non, .str _, _, h, _ | .non, .tup _, _, h, _ | .non, .obj _, _, h, _ | .non, .glo _, _, h, _ | .non, .ty _, _, h, _ | .non, .fl _, _, h, _ => by simp [gcV] at h
  | .bl _, .non, _, h, _ | .bl _, .int _, _, h, _ | .bl _, .str _, _, h, _ | .bl _, .tup _, _, h, _ | .bl _, .obj _, _, h, _ | .bl _, .glo _, _, h, _ | .bl _, .ty _, _, h, _ | .bl _, .fl _, _, h, _ => by simp [gcV] at h
  | .int _, .non, _, h, _ | .int _, .bl _, _, h, _ | .int _, .str _, _, h, _ | .int _, .tup _, _, h, _ | .int _, .obj _, _, h, _ | .int _, .glo _, _, h, _ | .int _, .ty _, _, h, _ | .int _, .fl _, _, h, _ => by simp [gcV] at h
  | .str _, .non, _, h, _ | .str _, .bl _, _, h, _ | .str _, .int _, _, h, _ | .str _, .tup _, _, h, _ | .str _, .obj _, _, h, _ | .str _, .glo _, _, h, _ | .str _, .ty _, _, h, _ | .str _, .fl _, _, h, _ => by simp [gcV] at h
  | .glo _, .non, _, h, _ | .glo _, .bl _, _, h, _ | .glo _, .int _, _, h, _ | .glo _, .tup _, _, h, _ | .glo _, .obj _, _, h, _ | .glo _, .str _, _, h, _ | .glo _, .ty _, _, h, _ | .glo _, .fl _, _, h, _ => by simp [gcV] at h
  | .ty _, .non, _, h, _ | .ty _, .bl _, _, h, _ | .ty _, .int _, _, h, _ | .ty _, .tup _, _, h, _ | .ty _, .obj _, _, h, _ | .ty _, .glo _, _, h, _ | .ty _, .str _, _, h, _ | .ty _, .fl _, _, h, _ => by simp [gcV] at h
  | .obj _, .non, _, h, _ | .obj _, .bl _, _, h, _ | .obj _, .int _, _, h, _ | .obj _, .tup _, _, h, _ | .obj _, .str _, _, h, _ | .obj _, .glo _, _, h, _ | .obj _, .ty _, _, h, _ | .obj _, .fl _, _, h, _ => by simp [gcV] at h
  | .tup _, .non, _, h, _ | .tup _, .bl _, _, h, _ | .tup _, .int _, _, h, _ | .tup _, .str _, _, h, _ | .tup _, .obj _, _, h, _ | .tup _, .glo _, _, h, _ | .tup _, .ty _, _, h, _ | .tup _, .fl _, _, h, _ => by simp [gcV] at h
  | .fl _, .non, _, h, _ | .fl _, .bl _, _, h, _ | .fl _, .int _, _, h, _ | .fl _, .str _, _, h, _ | .fl _, .obj _, _, h, _ | .fl _, .glo _, _, h, _ | .fl _, .ty _, _, h, _ | .fl _, .fl _, _, h, _ | .fl _, .tup _, _, h, _ => by simp [gcV] at h
theorem gcVs_ok : ∀ {xs ys : List AV} {vs : List V}, gcVs s xs ys = true → RVs C ρ n H xs vs → RVs C (rsel ρ s) s.length H ys vs
  | [], [], _, _, r => by
    cases r
    exact .nil
  | x :: xs, y :: ys, _, h, r => by
    cases r with
    | cons a b =>
      obtain ⟨h1, h2⟩ := He.ba (show (gcV s x y && gcVs s xs ys) = true from h)
      exact .cons (gcV_ok h1 a) (gcVs_ok h2 b)
  | [], _ :: _, _, h, _ => by simp [gcVs] at h
  | _ :: _, [], _, h, _ => by simp [gcVs] at h
end
theorem gcO_ok {o p : AO} {a : Addr} (h : gcO s o p = true) (r : RO C ρ n H o a) : RO C (rsel ρ s) s.length H p a := by
  cases o <;> cases p <;> first | (simp [gcO] at h; done) | skip
  · obtain ⟨vs, h1, h2⟩ := r
    exact ⟨vs, h1, gcVs_ok h h2⟩
  · obtain ⟨vs, h1, h2, h3⟩ := r
    obtain ⟨k1, k2⟩ := He.ba h
    exact ⟨vs, h1, (of_decide_eq_true k1).symm.trans h2, gcVs_ok k2 h3⟩
  · obtain ⟨Ca, dx, ws, h0, h1, h2, h3⟩ := r
    obtain ⟨k0, k⟩ := He.ba h
    obtain ⟨k1, k2⟩ := He.ba k
    cases of_decide_eq_true k0
    exact ⟨Ca, dx, ws, h0, h1, (of_decide_eq_true k1).symm.trans h2, gcVs_ok k2 h3⟩
theorem gcE_get : ∀ {e f : AEnv}, gcE s e f = true → e.length = f.length ∧ ∀ (i : Nat) (y : AV), f[i]? = some (some y) → ∃ x, e[i]? = some (some x) ∧ gcV s x y = true
  | [], [], _ => ⟨rfl, fun i y h => by simp at h⟩
  | x :: e, none :: f, h => by
    obtain ⟨h1, h2⟩ := gcE_get (e := e) (f := f) (by cases x <;> exact h)
    refine ⟨by rw [List.length_cons, List.length_cons, h1], fun i y q => ?_⟩
    cases i with
    | zero => cases q
    | succ i => exact h2 i y (by simpa using q)
  | some x :: e, some z :: f, h => by
    obtain ⟨k1, k2⟩ := He.ba (show (gcV s x z && gcE s e f) = true from h)
    obtain ⟨h1, h2⟩ := gcE_get k2
    refine ⟨by rw [List.length_cons, List.length_cons, h1], fun i y q => ?_⟩
    cases i with
    | zero =>
      cases q
      exact ⟨x, rfl, k1⟩
    | succ i => exact h2 i y (by simpa using q)
  | none :: e, some z :: f, h => by simp [gcE] at h
  | [], _ :: _, h => by simp [gcE] at h
  | x :: e, [], h => by cases x <;> simp [gcE] at h
theorem gcH_get {a : AH} : ∀ {t : List Nat} {b : AH}, gcH s a t b = true → t.length = b.length ∧ ∀ (j : Nat) (p : AO), b[j]? = some p → ∃ i o, t[j]? = some i ∧ a[i]? = some o ∧ gcO s o p = true
  | [], [], _ => ⟨rfl, fun j p h => by simp at h⟩
  | i :: t, p :: b, h => by
    obtain ⟨k1, k2⟩ := He.ba (show ((match a[i]? with | some o => gcO s o p | none => false) && gcH s a t b) = true from h)
    obtain ⟨h1, h2⟩ := gcH_get k2
    refine ⟨by rw [List.length_cons, List.length_cons, h1], fun j q e => ?_⟩
    cases j with
    | zero =>
      cases e
      split at k1
      · exact ⟨i, _, rfl, ‹_›, k1⟩
      · cases k1
    | succ j => exact h2 j q (by simpa using e)
  | [], _ :: _, h => by simp [gcH] at h
  | _ :: _, [], h => by simp [gcH] at h
theorem gc_ok {e1 : AEnv} {a1 : AH} {p : KS} {σ : L2.St} (h : gcB s e1 a1 p = true) (R : Rep C ρ a1 H) (RE : REnv C ρ a1.length H e1 σ) :
    Rep C (rsel ρ s) p.2 H ∧ REnv C (rsel ρ s) p.2.length H p.1 σ ∧ ∀ j, j < p.2.length → ∃ i, i < a1.length ∧ rsel ρ s j = ρ i := by
  obtain ⟨h1, h⟩ := He.ba h
  obtain ⟨h2, h3⟩ := He.ba h
  have nd := of_decide_eq_true h3
  obtain ⟨l1, g1⟩ := gcE_get h1
  obtain ⟨l2, g2⟩ := gcH_get h2
  have at_ : ∀ j, j < p.2.length → ∃ i, s[j]? = some i ∧ i < a1.length ∧ rsel ρ s j = ρ i := fun j hj => by
    obtain ⟨i, o, e1, e2, _⟩ := g2 j p.2[j] (List.getElem?_eq_getElem hj)
    refine ⟨i, e1, (List.getElem?_eq_some_iff.mp e2).1, ?_⟩
    show ρ (s.getD j 0) = ρ i
    rw [List.getD_eq_getElem?_getD, e1]
    rfl
  refine ⟨⟨fun j q hj => ?_, fun j k hj hk e => ?_⟩, ⟨l1.symm.trans RE.1, fun i y q => ?_⟩, fun j hj => ?_⟩
  · obtain ⟨i, o, e1, e2, e3⟩ := g2 j q hj
    have r := gcO_ok e3 (R.obj i o e2)
    have e4 : rsel ρ s j = ρ i := by
      show ρ (s.getD j 0) = ρ i
      rw [List.getD_eq_getElem?_getD, e1]
      rfl
    rw [e4, ← l2]
    exact r
  · obtain ⟨i, e1, b1, c1⟩ := at_ j hj
    obtain ⟨i', e2, b2, c2⟩ := at_ k hk
    have e3 : i = i' := R.inj i i' b1 b2 (c1.symm.trans (e.trans c2))
    subst e3
    have hj' : j < s.length := by rw [l2]; exact hj
    exact (List.getElem?_inj hj' nd).mp (e1.trans e2.symm)
  · obtain ⟨x, e1, e2⟩ := g1 i y q
    obtain ⟨v, h5, h6⟩ := RE.2 i x e1
    refine ⟨v, h5, ?_⟩
    rw [← l2]
    exact gcV_ok e2 h6
  · obtain ⟨i, _, b, c⟩ := at_ j hj
    exact ⟨i, b, c⟩
end
/-- one piece, from a written state to a written state -/
def stageB (c : CS) (s : List Nat) (o p : KS) : Bool := match c o.1 o.2 with
  | .nx e1 a1 => gcB s e1 a1 p
  | _ => false
def stageL (c : CS) (s : List Nat) (o p : KS) : Bool := match c (none :: o.1) o.2 with
  | .nx (_ :: e1) a1 => decide (e1.length = o.1.length) && gcB s e1 a1 p
  | _ => false
def lastB (c : CS) (o : KS) : Bool := okR (c o.1 o.2)
inductive AllSt (f : List Nat → KS → KS → Bool) : List KS → List KS → Prop where
  | nil : AllSt f [] []
  | cons {s : List Nat} {o p : KS} {os ps : List KS} : f s o p = true → AllSt f os ps → AllSt f (o :: os) (p :: ps)
theorem AllSt.get {f : List Nat → KS → KS → Bool} {os ps : List KS} (h : AllSt f os ps) : ∀ o ∈ os, ∃ p ∈ ps, ∃ s, f s o p = true := by
  induction h with
  | nil => exact fun o ho => by cases ho
  | cons h _ ih =>
    intro o ho
    rcases List.mem_cons.mp ho with rfl | ho
    · exact ⟨_, List.mem_cons_self, _, h⟩
    · obtain ⟨p, hp, s, e⟩ := ih o ho
      exact ⟨p, List.mem_cons_of_mem _ hp, s, e⟩
abbrev Kept (H0 H : Hp) : Prop := ∀ a u, H0 a = some u → H a = some u
/-- at one of the written states; all that stood at H0 stands, and what is held is new since -/
def AtK (C : KC) (os : List KS) (y : Option AV) (H0 : Hp) (σ : L2.St) (H : Hp) (w : Bool) : Prop := ∃ o ∈ os, ∃ ρ, Rep C ρ o.2 H ∧ REnv C ρ o.2.length H (if w = true then y :: o.1 else o.1) σ ∧ (∀ i, i < o.2.length → H0 (ρ i) = none) ∧ Kept H0 H
/-- it ends with True -/
def tK (C : KC) (os : List KS) : TS := fun D σ H => ∃ H0, AtK C os none H0 σ H false ∧ ∀ H', Kept H0 H' → D.rt (.bl true) H'
/-- it goes on, the script known -/
def tKL (C : KC) (os : List KS) : TS := fun D σ H => ∃ H0 xs, AtK C os (some (.fl xs)) H0 σ H true ∧ ∀ σ' H', Kept H0 H' → σ'.length = σ.length → (∃ p, σ'[0]? = some (some (.ref p)) ∧ SqF C.K H' p (xs.map V.int)) → D.nx σ' H'
section
variable {X : Cx} {E : XK} {st : Stmt} {rest : List Stmt} {c : CS} {os ps : List KS}
theorem after {C : KC} {ρ ρ1 : Nat → Addr} {n n1 : Nat} {H0 H H1 : Hp} (e : Ext ρ n H ρ1 n1 H1) (hf : ∀ i, i < n → H0 (ρ i) = none) (k : Kept H0 H) : (∀ i, i < n1 → H0 (ρ1 i) = none) ∧ Kept H0 H1 := by
  refine ⟨fun i hi => ?_, fun a u h => e.kp a u (k a u h) (.inr fun i hi z => ?_)⟩
  · by_cases q : i < n
    · rw [e.ag i q]
      exact hf i q
    · have z := e.nw i (Nat.le_of_not_lt q) hi
      cases h : H0 (ρ1 i) with
      | none => rfl
      | some u => rw [k _ _ h] at z; cases z
  · have := hf i hi
    rw [z, h] at this
    cases this
theorem q_cons (hs : PS X st (tS (kc X) E c)) (hr : PSs X rest (tK (kc X) ps)) (h : AllSt (stageB c) os ps) : PSs X (st :: rest) (tK (kc X) os) := pss_imp (pss_cons hs hr) fun D σ H ⟨H0, ⟨o, ho, ρ, R, RE, hf, k⟩, q⟩ => by
  obtain ⟨p, hp, s, e⟩ := h.get o ho
  refine ⟨ρ, o.2, o.1, R, RE, ?_⟩
  unfold stageB at e
  split at e
  · rename_i e1 a1 hc
    rw [hc]
    intro ρ1 H1 σ1 ex R1 RE1
    obtain ⟨f1, k1⟩ := after (C := kc X) ex hf k
    obtain ⟨R2, RE2, g⟩ := gc_ok e R1 RE1
    refine ⟨H0, ⟨p, hp, rsel ρ1 s, R2, RE2, fun j hj => ?_, k1⟩, q⟩
    obtain ⟨i, hi, z⟩ := g j hj
    rw [z]
    exact f1 i hi
  · cases e
theorem q_last (hs : PS X st (tS (kc X) E c)) (h : ∀ o ∈ os, lastB c o = true) : PSs X [st] (tK (kc X) os) := pss_imp (s_one hs) fun D σ H ⟨H0, ⟨o, ho, ρ, R, RE, hf, k⟩, q⟩ => by
  obtain ⟨a, e⟩ := okR_ex (h o ho)
  refine ⟨ρ, o.2, o.1, R, RE, ?_⟩
  rw [e]
  intro ρ1 H1 v ex R1 r
  cases r.bl_inv
  exact q H1 (after (C := kc X) ex hf k).2
theorem ql_cons (hs : PS X st (tS (kc X) E c)) (hr : PSs X rest (tKL (kc X) ps)) (hi : IgS c) (h : AllSt (stageL c) os ps) : PSs X (st :: rest) (tKL (kc X) os) := pss_imp (pss_cons hs hr) fun D σ H ⟨H0, xs, ⟨o, ho, ρ, R, RE, hf, k⟩, q⟩ => by
  obtain ⟨p, hp, s, e⟩ := h.get o ho
  refine ⟨ρ, o.2, some (.fl xs) :: o.1, R, RE, ?_⟩
  unfold stageL at e
  split at e
  · rename_i y0 e1 a1 hc
    obtain ⟨el, e⟩ := He.ba e
    replace el := of_decide_eq_true el
    have r := hi none (some (.fl xs)) o.1 o.2
    rw [hc] at r
    generalize hr2 : c (some (.fl xs) :: o.1) o.2 = r2 at r
    cases r with
    | nx e1' ah1 =>
      intro ρ1 H1 σ1 ex R1 RE1
      obtain ⟨f1, k1⟩ := after (C := kc X) ex hf k
      have RE1t : REnv (kc X) ρ1 a1.length H1 e1 σ1.tail := by
        refine ⟨?_, fun i x hx => ?_⟩
        · have := RE1.1
          rw [List.length_cons] at this
          rw [List.length_tail]
          omega
        · obtain ⟨v, h1, h2⟩ := RE1.2 (i + 1) x (by simpa using hx)
          exact ⟨v, by rw [List.getElem?_tail]; exact h1, h2⟩
      obtain ⟨R2, RE2, g⟩ := gc_ok e R1 RE1t
      obtain ⟨v0, s0, r0⟩ := RE1.2 0 (.fl xs) rfl
      have l1 := RE1.1
      have lo : σ1.length = σ.length := by
        have a1 := RE.1
        simp only [List.length_cons, if_true] at a1 l1
        omega
      refine ⟨H0, xs, ⟨p, hp, rsel ρ1 s, R2, ⟨?_, fun i x hx => ?_⟩, fun j hj => ?_, k1⟩, fun σ' H' kk hl hp' => q σ' H' kk (hl.trans lo) hp'⟩
      · have a2 := RE2.1
        rw [List.length_tail] at a2
        show (some (AV.fl xs) :: p.1).length = _
        rw [List.length_cons] at *
        omega
      · cases i with
        | zero =>
          cases hx
          obtain ⟨p1, rfl, f1⟩ := r0.fl_inv
          exact ⟨_, s0, .fl f1⟩
        | succ i =>
          obtain ⟨v, h1, h2⟩ := RE2.2 i x (by simpa using hx)
          exact ⟨v, by rw [List.getElem?_tail] at h1; exact h1, h2⟩
      · obtain ⟨i, hi, z⟩ := g j hj
        rw [z]
        exact f1 i hi
  · cases e
theorem ql_nil : PSs X [] (tKL (kc X) os) := pss_imp pss_nil fun D σ H ⟨H0, xs, ⟨o, ho, ρ, R, RE, hf, k⟩, q⟩ => by
  obtain ⟨v0, s0, r0⟩ := RE.2 0 (.fl xs) rfl
  obtain ⟨p1, rfl, f1⟩ := r0.fl_inv
  exact q σ H k rfl ⟨p1, s0, f1⟩
end
end Sm

set_option Elab.async false
set_option linter.all false
set_option maxRecDepth 100000
set_option maxHeartbeats 4000000
namespace Sm
open PySem PySem.Spec PyProof.Rows L2
/-- at few written arguments it gives True, and lets stand what stood -/
def mTrue (os : List (List AV)) : List AV → CM AV := fun xs ah => if (os.any fun o => lesE (o.map some) (xs.map some)) = true then .ok (.bl true) ah else .no
def start0 (N : Nat) (os : List (List AV)) : List KS := os.map fun o => (o.map some ++ List.replicate (N - o.length) none, [])
theorem lesE_app : ∀ {a b : AEnv} {k : Nat}, lesE a b = true → lesE (a ++ List.replicate k none) (b ++ List.replicate k none) = true
  | [], [], k, _ => by
    induction k with
    | zero => rfl
    | succ k ih => exact ih
  | none :: a, x :: b, k, h => lesE_app (a := a) (b := b) (by cases x <;> exact h)
  | some x :: a, some y :: b, k, h => by
    obtain ⟨h1, h2⟩ := He.ba (show (avB x y && lesE a b) = true from h)
    show (avB x y && lesE (a ++ _) (b ++ _)) = true
    rw [h1, lesE_app h2]
    rfl
  | some x :: o, none :: e, _, h => by cases h
  | [], _ :: _, _, h => by cases h
  | none :: _, [], _, h => by cases h
  | some _ :: _, [], _, h => by cases h
section
variable {P : Program} {w : World} {K : PySem.W.Frag} {mg : Str → Option Value} {base : Heap}
theorem fn_closed {x qual : Str} {params : Arguments} {body : List Stmt} {scope : Scope} {dvs : List V} {kws : List (Str × V)} {f : Addr} {fd : FuncData} {N ps : List Str} {k : Nat} {os : List (List AV)} (F : FunD K x qual params body scope dvs kws f fd) (S : FnScope N ps scope)
    (hb : ∀ (cdv : Value) (A : Around) (outer : List Env) (s : Shared) (H : Hp) (E : XK), Room k (A.deeper (envOfC qual scope s.heap.objs.size f cdv)) → PSs (cxOf (L2.CX P w) P w K mg base N qual scope f cdv A outer s H E) body (tK ⟨K, mg⟩ (start0 N.length os))) :
    FnOk P w K mg base (L2.CX P w) (k + 1) f fd ps (spM ⟨K, mg⟩ ps.length (mTrue os)) := by
  refine F.ok S (fun vs H Q E ⟨ρ, ah, xs, _, r, hl, _⟩ => by rw [← r.length]; exact hl) (fun cdv A outer s H vs Q E hr ⟨ρ, ah, xs, R, r, hl, q⟩ => ⟨_, hb cdv A outer s H E hr, ?_⟩)
  unfold mTrue at q
  split at q
  · rename_i hn
    obtain ⟨o, ho, hle⟩ := List.any_eq_true.mp hn
    have hl2 : o.length = xs.length := by simpa using lesE_len hle
    refine ⟨H, ⟨_, List.mem_map.mpr ⟨o, ho, rfl⟩, ρ, ⟨fun i o h => by simp at h, fun i j h => by simp at h⟩, ?_, fun i h => by simp at h, fun a u h => h⟩, fun H' k => ?_⟩
    · rw [if_neg (by decide)]
      refine renv_les (e := xs.map some ++ List.replicate (N.length - xs.length) none) (ρ := ρ) (n := ah.length) (H := H) ?_ (REnv.start (N := N) r)
      rw [hl2]
      exact lesE_app hle
    · obtain ⟨R', e'⟩ := R.grow (H' := H') fun b u h => k b u h
      exact q ρ H' (.bl true) e' R' (.bl true)
  · exact (show False from q).elim
end
section
variable {X : Cx} {E : XK} {st : List Stmt}
theorem s_freshK {os : List AEnv} (hb : PSs X st (tKL (kc X) (os.map fun o => (o, [])))) : PSs X st (tS (kc X) E (cFreshL os)) := pss_imp hb fun D σ H ⟨ρ, ah, env, R, RE, q⟩ => by
  unfold cFreshL at q
  split at q
  · rename_i xs e
    split at q
    · rename_i hn
      obtain ⟨o, ho, hle⟩ := List.any_eq_true.mp hn
      obtain ⟨v0, s0, r0⟩ := RE.2 0 (.fl xs) rfl
      obtain ⟨p, rfl, f0⟩ := r0.fl_inv
      have hl := lesE_len hle
      refine ⟨H, xs, ⟨(o, []), List.mem_map.mpr ⟨o, ho, rfl⟩, ρ, ⟨fun i o h => by simp at h, fun i j h => by simp at h⟩, ?_, fun i h => by simp at h, fun a u h => h⟩, fun σ' H' kk hl' hp => ?_⟩
      · rw [if_pos rfl]
        refine ⟨by rw [List.length_cons, hl]; exact RE.1, fun i x h => ?_⟩
        cases i with
        | zero =>
          cases h
          exact ⟨_, s0, .fl f0⟩
        | succ i =>
          obtain ⟨y, h1, h2⟩ := lesE_get hle (show o[i]? = some (some x) by simpa using h)
          obtain ⟨v, h3, h4⟩ := RE.2 (i + 1) y (by simpa using h1)
          obtain ⟨e, k⟩ := avB_eq h2
          subst e
          exact ⟨v, h3, k _ _ _ _ _ _ _ _ h4⟩
      · obtain ⟨p1, t0, f1⟩ := hp
        obtain ⟨R2, ex2⟩ := R.grow (H' := H') fun b u h => kk b u h
        refine q ρ H' σ' ex2 R2 ⟨?_, fun i x h => ?_⟩
        · rw [hl', List.length_cons, List.length_replicate]
          exact RE.1
        · cases i with
          | zero =>
            cases h
            exact ⟨_, t0, .fl f1⟩
          | succ i =>
            simp only [List.getElem?_cons_succ, List.getElem?_replicate] at h
            split at h <;> cases h
    · exact (show False from q).elim
  · exact (show False from q).elim
theorem s_freshT {os : List AEnv} (hb : PSs X st (tK (kc X) (os.map fun o => (o, [])))) : PSs X st (tS (kc X) E (cFreshR os)) := pss_imp hb fun D σ H ⟨ρ, ah, env, R, RE, q⟩ => by
  unfold cFreshR at q
  split at q
  · rename_i hn
    obtain ⟨o, ho, hle⟩ := List.any_eq_true.mp hn
    refine ⟨H, ⟨(o, []), List.mem_map.mpr ⟨o, ho, rfl⟩, ρ, ⟨fun i o h => by simp at h, fun i j h => by simp at h⟩, ?_, fun i h => by simp at h, fun a u h => h⟩, fun H' k => ?_⟩
    · rw [if_neg (by decide)]
      exact renv_les hle RE
    · obtain ⟨R', e'⟩ := R.grow (H' := H') fun b u h => k b u h
      exact q ρ H' (.bl true) e' R' (.bl true)
  · exact (show False from q).elim
end
end Sm

set_option Elab.async false
set_option linter.all false
set_option maxRecDepth 100000
set_option maxHeartbeats 4000000
namespace Sm
open PySem PySem.Spec PyProof.Rows L2
/-! ### a def that makes, at few written arguments, things that can be written -/
mutual
def shV (d : Nat) : AV → AV
  | .obj i => .obj (i + d)
  | .tup xs => .tup (shVs d xs)
  | x => x
def shVs (d : Nat) : List AV → List AV
  | [] => []
  | x :: xs => shV d x :: shVs d xs
end
def shP {κ : Type} (d : Nat) (l : List (κ × AV)) : List (κ × AV) := (l.map (·.1)).zip (shVs d (l.map (·.2)))
def shO (d : Nat) : AO → AO
  | .lst xs => .lst (shVs d xs)
  | .fls xs => .fls (shVs d xs)
  | .dct kvs => .dct (shP d kvs)
  | .ins c fs => .ins c (shP d fs)
abbrev KTo := AV × AH
def avG : AV → AV → Bool
  | .int a, .int b => decide (a = b)
  | .str a, .str b => decide (a = b)
  | .glo a, .glo b => decide (a = b)
  | _, _ => false
def avGs : List AV → List AV → Bool
  | [], [] => true
  | x :: xs, y :: ys => avG x y && avGs xs ys
  | _, _ => false
theorem avG_eq {x y : AV} (h : avG x y = true) : x = y ∧ ∀ C ρ n H ρ' n' H' v, RV C ρ n H y v → RV C ρ' n' H' y v := by
  cases x <;> cases y <;> first | cases h | skip
  · rename_i a b
    cases (show a = b from of_decide_eq_true h)
    exact ⟨rfl, fun _ _ _ _ _ _ _ v r => by cases r.int_inv; exact .int _⟩
  · rename_i a b
    cases (show a = b from of_decide_eq_true h)
    exact ⟨rfl, fun _ _ _ _ _ _ _ v r => by cases r.str_inv; exact .str _⟩
  · rename_i a b
    cases (show a = b from of_decide_eq_true h)
    exact ⟨rfl, fun _ _ _ _ _ _ _ v r => by cases r; exact .glo ‹_›⟩
theorem avGs_eq : ∀ {xs ys : List AV}, avGs xs ys = true → xs = ys ∧ ∀ C ρ n H ρ' n' H' vs, RVs C ρ n H ys vs → RVs C ρ' n' H' ys vs
  | [], [], _ => ⟨rfl, fun _ _ _ _ _ _ _ vs r => by cases r; exact .nil⟩
  | x :: xs, y :: ys, h => by
    obtain ⟨h1, h2⟩ := He.ba (show (avG x y && avGs xs ys) = true from h)
    obtain ⟨e1, k1⟩ := avG_eq h1
    obtain ⟨e2, k2⟩ := avGs_eq h2
    subst e1 e2
    refine ⟨rfl, fun C ρ n H ρ' n' H' vs r => ?_⟩
    cases r with
    | cons a b => exact .cons (k1 _ _ _ _ _ _ _ _ a) (k2 _ _ _ _ _ _ _ _ b)
  | [], _ :: _, h => by cases h
  | _ :: _, [], h => by cases h
def mTab (os : List (List AV × KTo)) : List AV → CM AV := fun xs ah => match os.find? (fun o => avGs o.1 xs) with
  | some o => .ok (shV ah.length o.2.1) (ah ++ o.2.2.map (shO ah.length))
  | none => .no
section
variable {C : KC} {ρ ρ2 : Nat → Addr} {d n : Nat} {H : Hp}
abbrev rjoin (ρ ρ2 : Nat → Addr) (d : Nat) : Nat → Addr := fun i => if i < d then ρ i else ρ2 (i - d)
mutual
theorem shV_ok : ∀ {x : AV} {v : V}, RV C ρ2 n H x v → RV C (rjoin ρ ρ2 d) (d + n) H (shV d x) v
  | _, _, .non => .non
  | _, _, .bl b => .bl b
  | _, _, .int i => .int i
  | _, _, .str s => .str s
  | _, _, .ty t => .ty t
  | _, _, .glo h => .glo h
  | _, _, .obj (i := i) h => by
    have z : RV C (rjoin ρ ρ2 d) (d + n) H (.obj (i + d)) (.ref (rjoin ρ ρ2 d (i + d))) := .obj (by omega)
    have e : rjoin ρ ρ2 d (i + d) = ρ2 i := by
      show (if i + d < d then ρ (i + d) else ρ2 (i + d - d)) = ρ2 i
      rw [if_neg (by omega), Nat.add_sub_cancel]
    rw [e] at z
    exact z
  | _, _, .tup h r => .tup h (shVs_ok r)
  | _, _, .fl h => .fl h
theorem shVs_ok : ∀ {xs : List AV} {vs : List V}, RVs C ρ2 n H xs vs → RVs C (rjoin ρ ρ2 d) (d + n) H (shVs d xs) vs
  | _, _, .nil => .nil
  | _, _, .cons a b => .cons (shV_ok a) (shVs_ok b)
end
theorem shVs_len : ∀ {xs : List AV}, (shVs d xs).length = xs.length
  | [] => rfl
  | x :: xs => congrArg (· + 1) (shVs_len (xs := xs))
theorem shP_ok {κ : Type} {l : List (κ × AV)} {ws : List (κ × V)} (h : KVs C ρ2 n H l ws) : KVs C (rjoin ρ ρ2 d) (d + n) H (shP d l) ws := by
  have l1 : (l.map (·.1)).length = (shVs d (l.map (·.2))).length := by rw [shVs_len, List.length_map, List.length_map]
  refine ⟨?_, ?_⟩
  · unfold shP
    rw [← List.unzip_fst, List.unzip_zip_left (by omega)]
    exact h.1
  · unfold shP
    rw [← List.unzip_snd, List.unzip_zip_right (by omega)]
    exact shVs_ok h.2
theorem shO_ok {o : AO} {a : Addr} (h : RO C ρ2 n H o a) : RO C (rjoin ρ ρ2 d) (d + n) H (shO d o) a := by
  cases o with
  | lst => obtain ⟨vs, h, r⟩ := h; exact ⟨vs, h, shVs_ok r⟩
  | fls => obtain ⟨o, vs, h, r⟩ := h; exact ⟨o, vs, h, shVs_ok r⟩
  | dct => obtain ⟨ws, h, r⟩ := h; exact ⟨ws, h, shP_ok r⟩
  | ins => obtain ⟨Ca, dx, ws, m, h, r⟩ := h; exact ⟨Ca, dx, ws, m, h, shP_ok r⟩
end
def lastO (c : CS) (s : List Nat) (o : KS × KTo) : Bool := match c o.1.1 o.1.2 with
  | .rt x a => gcV s x o.2.1 && (gcH s a s o.2.2 && decide s.Nodup)
  | _ => false
inductive AllO (f : List Nat → KS → KS → Bool) : List (KS × KTo) → List (KS × KTo) → Prop where
  | nil : AllO f [] []
  | cons {s : List Nat} {o p : KS} {t : KTo} {os ps : List (KS × KTo)} : f s o p = true → AllO f os ps → AllO f ((o, t) :: os) ((p, t) :: ps)
theorem AllO.get {f : List Nat → KS → KS → Bool} {os ps : List (KS × KTo)} (h : AllO f os ps) : ∀ o ∈ os, ∃ p ∈ ps, p.2 = o.2 ∧ ∃ s, f s o.1 p.1 = true := by
  induction h with
  | nil => exact fun o ho => by cases ho
  | cons h _ ih =>
    intro o ho
    rcases List.mem_cons.mp ho with rfl | ho
    · exact ⟨_, List.mem_cons_self, rfl, _, h⟩
    · obtain ⟨p, hp, e, s, z⟩ := ih o ho
      exact ⟨p, List.mem_cons_of_mem _ hp, e, s, z⟩
/-- it gives what is written -/
def tKO (C : KC) (os : List (KS × KTo)) : TS := fun D σ H => ∃ H0, ∃ o ∈ os, AtK C [o.1] none H0 σ H false ∧ ∀ ρ' H' v, Kept H0 H' → Rep C ρ' o.2.2 H' → RV C ρ' o.2.2.length H' o.2.1 v → (∀ i, i < o.2.2.length → H0 (ρ' i) = none) → D.rt v H'
section
variable {X : Cx} {E : XK} {st : Stmt} {rest : List Stmt} {c : CS} {os ps : List (KS × KTo)}
theorem qo_cons (hs : PS X st (tS (kc X) E c)) (hr : PSs X rest (tKO (kc X) ps)) (h : AllO (stageB c) os ps) : PSs X (st :: rest) (tKO (kc X) os) := pss_imp (pss_cons hs hr) fun D σ H ⟨H0, o, ho, ⟨o', ho', ρ, R, RE, hf, k⟩, q⟩ => by
  cases List.mem_singleton.mp ho'
  obtain ⟨p, hp, e2, s, e⟩ := h.get o ho
  refine ⟨ρ, o.1.2, o.1.1, R, RE, ?_⟩
  unfold stageB at e
  split at e
  · rename_i e1 a1 hc
    rw [hc]
    intro ρ1 H1 σ1 ex R1 RE1
    obtain ⟨f1, k1⟩ := after (C := kc X) ex hf k
    obtain ⟨R2, RE2, g⟩ := gc_ok e R1 RE1
    refine ⟨H0, p, hp, ⟨p.1, List.mem_singleton.mpr rfl, rsel ρ1 s, R2, RE2, fun j hj => ?_, k1⟩, by rw [e2]; exact q⟩
    obtain ⟨i, hi, z⟩ := g j hj
    rw [z]
    exact f1 i hi
  · cases e
theorem qo_last (hs : PS X st (tS (kc X) E c)) (h : ∀ o ∈ os, ∃ s, lastO c s o = true) : PSs X [st] (tKO (kc X) os) := pss_imp (s_one hs) fun D σ H ⟨H0, o, ho, ⟨o', ho', ρ, R, RE, hf, k⟩, q⟩ => by
  cases List.mem_singleton.mp ho'
  obtain ⟨s, e⟩ := h o ho
  refine ⟨ρ, o.1.2, o.1.1, R, RE, ?_⟩
  unfold lastO at e
  split at e
  · rename_i x a hc
    rw [hc]
    intro ρ1 H1 v ex R1 r
    obtain ⟨f1, k1⟩ := after (C := kc X) ex hf k
    obtain ⟨g1, g⟩ := He.ba e
    obtain ⟨R2, _, gg⟩ := gc_ok (p := ([], o.2.2)) (e1 := []) (σ := []) (by show (gcE s [] [] && _) = true; exact g) R1 ⟨rfl, fun i x h => by simp at h⟩
    have hl : s.length = o.2.2.length := (gcH_get (He.ba g).1).1
    refine q (rsel ρ1 s) H1 v k1 R2 ?_ fun j hj => ?_
    · rw [← hl]
      exact gcV_ok g1 r
    · obtain ⟨i, hi, z⟩ := gg j hj
      rw [z]
      exact f1 i hi
  · cases e
end
section
variable {P : Program} {w : World} {K : PySem.W.Frag} {mg : Str → Option Value} {base : Heap}
def startO (N : Nat) (os : List (List AV × KTo)) : List (KS × KTo) := os.map fun o => ((o.1.map some ++ List.replicate (N - o.1.length) none, []), o.2)
theorem fn_tab {x qual : Str} {params : Arguments} {body : List Stmt} {scope : Scope} {dvs : List V} {kws : List (Str × V)} {f : Addr} {fd : FuncData} {N ps : List Str} {k : Nat} {os : List (List AV × KTo)} (F : FunD K x qual params body scope dvs kws f fd) (S : FnScope N ps scope)
    (hb : ∀ (cdv : Value) (A : Around) (outer : List Env) (s : Shared) (H : Hp) (E : XK), Room k (A.deeper (envOfC qual scope s.heap.objs.size f cdv)) → PSs (cxOf (L2.CX P w) P w K mg base N qual scope f cdv A outer s H E) body (tKO ⟨K, mg⟩ (startO N.length os))) :
    FnOk P w K mg base (L2.CX P w) (k + 1) f fd ps (spM ⟨K, mg⟩ ps.length (mTab os)) := by
  refine F.ok S (fun vs H Q E ⟨ρ, ah, xs, _, r, hl, _⟩ => by rw [← r.length]; exact hl) (fun cdv A outer s H vs Q E hr ⟨ρ, ah, xs, R, r, hl, q⟩ => ⟨_, hb cdv A outer s H E hr, ?_⟩)
  unfold mTab at q
  split at q
  · rename_i o ho
    obtain ⟨e, k⟩ := avGs_eq (show avGs o.1 xs = true by simpa using List.find?_some ho)
    have hm := List.mem_of_find?_eq_some ho
    refine ⟨H, _, List.mem_map.mpr ⟨o, hm, rfl⟩, ⟨_, List.mem_singleton.mpr rfl, ρ, ⟨fun i o h => by simp at h, fun i j h => by simp at h⟩, ?_, fun i h => by simp at h, fun a u h => h⟩, fun ρ' H' v kk R' rv hn => ?_⟩
    · rw [if_neg (by decide)]
      rw [e]
      exact ⟨(REnv.start (N := N) r).1, fun i x hx => by
        obtain ⟨v, h1, h2⟩ := (REnv.start (N := N) (k _ _ _ _ ρ 0 H _ r)).2 i x hx
        exact ⟨v, h1, h2⟩⟩
    · replace hn : ∀ i, i < o.2.2.length → H (ρ' i) = none := hn
      replace R' : Rep ⟨K, mg⟩ ρ' o.2.2 H' := R'
      replace rv : RV ⟨K, mg⟩ ρ' o.2.2.length H' o.2.1 v := rv
      have old : ∀ i, i < ah.length → ∃ u, H (ρ i) = some u := fun i hi => R.there hi
      have lt : ∀ i, i < ah.length → rjoin ρ ρ' ah.length i = ρ i := fun i hi => if_pos hi
      have ge : ∀ i, ¬ i < ah.length → rjoin ρ ρ' ah.length i = ρ' (i - ah.length) := fun i hi => if_neg hi
      have hlen : (ah ++ o.2.2.map (shO ah.length)).length = ah.length + o.2.2.length := by simp
      have ex : Ext ρ ah.length H (rjoin ρ ρ' ah.length) (ah.length + o.2.2.length) H' := ⟨by omega, lt, fun i h1 h2 => by
        rw [ge i (by omega)]
        exact hn _ (by omega), fun a u h _ => kk a u h, fun a u h => ⟨u, kk a u h⟩⟩
      refine q (rjoin ρ ρ' ah.length) H' v (by rw [hlen]; exact ex) ⟨fun i p hp => ?_, fun i j hi hj e => ?_⟩ (by rw [hlen]; exact shV_ok rv)
      · rw [hlen]
        by_cases hi : i < ah.length
        · rw [List.getElem?_append_left hi] at hp
          rw [lt i hi]
          have z := R.obj i p hp
          obtain ⟨u, hu⟩ := z.there
          exact z.keep ex ((kk _ _ hu).trans hu.symm)
        · rw [List.getElem?_append_right (Nat.le_of_not_lt hi), List.getElem?_map] at hp
          obtain ⟨p', hp', rfl⟩ := Option.map_eq_some_iff.mp hp
          rw [ge i hi]
          exact shO_ok (R'.obj _ _ hp')
      · rw [hlen] at hi hj
        by_cases h1 : i < ah.length
        · by_cases h2 : j < ah.length
          · rw [lt i h1, lt j h2] at e
            exact R.inj i j h1 h2 e
          · rw [lt i h1, ge j h2] at e
            obtain ⟨u, hu⟩ := old i h1
            rw [e, hn _ (by omega)] at hu
            cases hu
        · by_cases h2 : j < ah.length
          · rw [ge i h1, lt j h2] at e
            obtain ⟨u, hu⟩ := old j h2
            rw [← e, hn _ (by omega)] at hu
            cases hu
          · rw [ge i h1, ge j h2] at e
            have := R'.inj _ _ (by omega) (by omega) e
            omega
  · exact (show False from q).elim
end
end Sm

set_option Elab.async false
set_option linter.all false
set_option maxRecDepth 100000
set_option maxHeartbeats 4000000
namespace Sm
open PySem PySem.Spec PyProof.Rows L2

/-! ### divmod, str.zfill -/
def divmodM : List AV → CM AV := fun xs ah => match xs with
  | [.int i, .int j] => if 0 < j ∧ j.natAbs.log2 < 9000 then .ok (.tup [.int (i / j), .int (i % j)]) ah else .no
  | _ => .no
section
variable {X : Cx} {C : KC} {E : XK}
def rDivmod : List V → Hp → VK → Prop := fun xs H Q => ∃ i j, xs = [V.int i, .int j] ∧ CDivW i j ∧ NewT H [.int (i / j), .int (i % j)] Q
theorem cr_divmod : CallR X (.builtin "divmod") rDivmod := by
  intro pins s σ H xs us Q I r h
  obtain ⟨i, j, rfl, hc, q⟩ := h
  obtain ⟨u, w', rfl, ⟨t, rfl⟩, ⟨t', rfl⟩⟩ := vals2 r
  have h1 : 0 < j := hc.1
  refine divmod_int (by omega) ?_ (.inl (PyProof.noPylong_of_log2 hc.2))
  rw [Int.fdiv_eq_ediv_of_nonneg i (by omega), Int.fmod_eq_emod_of_nonneg i (by omega)]
  have rr : Vals [V.int (i / j), V.int (i % j)] [Value.int (i / j) s.toks, .int (i % j) (s.toks + 1)] := .cons ⟨_, rfl⟩ (.cons ⟨_, rfl⟩ .nil)
  exact mk_tup I rr (by show 2 ≤ sizeLine; rw [sizeLine_eq]; decide) rfl q
theorem ca_divmod : CaS C E rDivmod divmodM := by
  intro ρ ah H xs vs Q R r q
  unfold divmodM at q
  split at q
  · rename_i i j
    cases r with
    | cons r1 r =>
    cases r with
    | cons r2 r =>
    cases r
    cases r1.int_inv
    cases r2.int_inv
    split at q
    · exact ⟨i, j, rfl, ‹_›, Aft.tup R q (.cons (.int _) (.cons (.int _) .nil))⟩
    · exact (show False from q).elim
  · exact (show False from q).elim
def zfillM : AV → List AV → CM AV := fun x ys ah => match x, ys with
  | .str a, [.int i] => if PadOk i = true then .ok (.str (Txt.zfill a i)) ah else .no
  | _, _ => .no
theorem ms_zfill : MtS C E (fun x xs H Q => ∃ (a : Str) (i : Int), x = .str a ∧ xs = [.int i] ∧ PadOk i = true ∧ Q (.str (Txt.zfill a i)) H) zfillM := by
  intro ρ ah H x ys v vs Q R rx rs q
  unfold zfillM at q
  split at q
  · rename_i a i
    obtain ⟨w, rfl, rw'⟩ := rs.one_inv
    cases rx.str_inv
    cases rw'.int_inv
    split at q
    · exact ⟨a, i, rfl, rfl, ‹_›, Aft.here R q (.str _)⟩
    · exact (show False from q).elim
  · exact (show False from q).elim
theorem e_rev {e : Expr} {c : CE} {z1 : Nat} {q1 q2 q3 pos : Pos} (he : PE X e (tE (kc X) E c)) : PE X (.Subscript e (.Slice none none (some (.UnaryOp .USub (.Constant (.int 1) z1 q1) q2)) q3) pos) (tE (kc X) E (cRevL c)) := pe_imp (L2.pe_revL he) fun σ H Q ⟨ρ, ah, env, R, RE, q⟩ => by
  refine ⟨ρ, ah, env, R, RE, ?_⟩
  unfold cRevL bind at q
  cases ha : c env ah with
  | no => rw [ha] at q; exact q
  | er x ah1 => rw [ha] at q; exact q
  | ok x ah1 =>
    rw [ha] at q
    intro ρ1 H1 v e1 R1 r
    replace q := Aft.pre e1 q
    cases x with
    | obj n =>
      obtain ⟨hn, rfl⟩ := r.obj_inv
      dsimp only at q
      split at q
      · rename_i xs hl
        obtain ⟨_, vs, h1, h2⟩ := R1.lst hl
        exact ⟨_, vs, rfl, h1, Aft.lst R1 q h2.reverse⟩
      · exact (show False from q).elim
    | _ => exact (show False from q).elim
end
end Sm

set_option Elab.async false
set_option linter.all false
set_option maxRecDepth 100000
set_option maxHeartbeats 4000000
namespace Sm
open PySem PySem.Spec PyProof.Rows L2
/-- a law that draws one number of three, and then looks at nothing of what was dealt -/
def opts05 : List AEnv := ([2, 3, 4] : List Int).map fun z => [none, none, some (.int z), none, none, none, none, none]
def cBody05 : CS := (cSeq (cAsg (cCall 2 mDeal [] (caCons (cVar 0) (caCons (cVar 1) caNil))) (gNam 2))
  (cSeq (cAsg (cOp addM (cC (.int 2)) (cCall 2 mDraw [] (caCons (cVar 2) (caCons (cC (.int 3)) caNil)))) (gNam 3))
  (cFreshL opts05)))
theorem body05 (xs : List Int) (j : Int) (ah : AH) (h0 : 0 ≤ j) (h1 : j ≤ 1000) : ∃ ah', cBody05 (some (.fl xs) :: some (.int j) :: List.replicate 7 none) ah = .nx (some (.fl xs) :: List.replicate 8 none) ah' := by
  obtain ⟨ah1, d, l, is, st, e1, D⟩ := deal_ok (ah := ah) xs j h0 h1
  obtain ⟨ah2, r, is', st', e2, r0, r1, D', _⟩ := draw_ok (b := 3) D (by decide) (by decide)
  have c1 : cAsg (cCall 2 mDeal [] (caCons (cVar 0) (caCons (cVar 1) caNil))) (gNam 2) (some (.fl xs) :: some (.int j) :: List.replicate 7 none) ah = .nx [some (.fl xs), some (.int j), some (.obj d), none, none, none, none, none, none] ah1 := by
    simp [cAsg, cCall, caCons, caNil, Sm.bind, Sm.ret, cVar, e1, gNam, List.replicate]
  have c2 : cAsg (cOp addM (cC (.int 2)) (cCall 2 mDraw [] (caCons (cVar 2) (caCons (cC (.int 3)) caNil)))) (gNam 3) [some (.fl xs), some (.int j), some (.obj d), none, none, none, none, none, none] ah1 = .nx [some (.fl xs), some (.int j), some (.obj d), some (.int (2 + r)), none, none, none, none, none] ah2 := by
    simp [cAsg, cOp, cC, addM, cCall, caCons, caNil, Sm.bind, Sm.ret, cVar, e2, gNam]
  refine ⟨ah2, ?_⟩
  simp only [cBody05, cSeq, c1, c2, cFreshL]
  have hr : r = 0 ∨ r = 1 ∨ r = 2 := by omega
  rcases hr with rfl | rfl | rfl <;> rfl
theorem law05 (xs : List Int) : ∃ ah', cFn 9 (cLawL cBody05) [.fl xs] [] = .ok (.bl true) ah' := lawG (m := 7) fun j ah h0 h1 => body05 xs j ah h0 h1
end Sm

set_option Elab.async false
set_option linter.all false
set_option maxRecDepth 100000
set_option maxHeartbeats 4000000
namespace T5
open PySem PySem.Spec PyProof.Rows L2 Sm
def forBody : Stmt → List Stmt
  | .For _ _ b .. => b
  | _ => []
theorem sc_InvalidDeed___init__ : FnScope ["self", "word"] ["self", "word"] (defScope (cb (top 14) 0)) := ⟨rfl, rfl, rfl, by decide +kernel, rfl, by decide +kernel, by decide +kernel⟩
theorem sc_InvalidText___init__ : FnScope ["self", "at"] ["self", "at"] (defScope (cb (top 16) 0)) := ⟨rfl, rfl, rfl, by decide +kernel, rfl, by decide +kernel, by decide +kernel⟩
theorem sc_InvalidWorld___init__ : FnScope ["self", "word"] ["self", "word"] (defScope (cb (top 15) 0)) := ⟨rfl, rfl, rfl, by decide +kernel, rfl, by decide +kernel, by decide +kernel⟩
structure Gf (K : PySem.W.Frag) (mg : Str → Option Value) : Prop where
  glo_Deed : mg "Deed" = some (.ref (He.ga K "Deed"))
  glo_InvalidDeed : mg "InvalidDeed" = some (.ref (He.ga K "InvalidDeed"))
  glo_InvalidText : mg "InvalidText" = some (.ref (He.ga K "InvalidText"))
  glo_InvalidWorld : mg "InvalidWorld" = some (.ref (He.ga K "InvalidWorld"))
  glo_RESERVED : mg "RESERVED" = some (.ref (He.ga K "RESERVED"))
  glo_World : mg "World" = some (.ref (He.ga K "World"))
  glo__are_cells : mg "_are_cells" = some (.ref (He.ga K "_are_cells"))
  glo__are_deeds : mg "_are_deeds" = some (.ref (He.ga K "_are_deeds"))
  glo__are_different_cells : mg "_are_different_cells" = some (.ref (He.ga K "_are_different_cells"))
  glo__are_needs : mg "_are_needs" = some (.ref (He.ga K "_are_needs"))
  glo__are_sets : mg "_are_sets" = some (.ref (He.ga K "_are_sets"))
  glo__are_tells : mg "_are_tells" = some (.ref (He.ga K "_are_tells"))
  glo__fits : mg "_fits" = some (.ref (He.ga K "_fits"))
  glo__is_setting : mg "_is_setting" = some (.ref (He.ga K "_is_setting"))
  glo__law_deal : mg "_law_deal" = some (.ref (He.ga K "_law_deal"))
  glo__law_draw : mg "_law_draw" = some (.ref (He.ga K "_law_draw"))
  glo__parts_text : mg "_parts_text" = some (.ref (He.ga K "_parts_text"))
  glo__read_deed : mg "_read_deed" = some (.ref (He.ga K "_read_deed"))
  glo__take_part : mg "_take_part" = some (.ref (He.ga K "_take_part"))
  glo_are_different : mg "are_different" = some (.ref (He.ga K "are_different"))
  glo_digits_of : mg "digits_of" = some (.ref (He.ga K "digits_of"))
  glo_done : mg "done" = some (.ref (He.ga K "done"))
  glo_is_integer : mg "is_integer" = some (.ref (He.ga K "is_integer"))
  glo_is_name : mg "is_name" = some (.ref (He.ga K "is_name"))
  glo_is_number : mg "is_number" = some (.ref (He.ga K "is_number"))
  glo_is_number_text : mg "is_number_text" = some (.ref (He.ga K "is_number_text"))
  glo_is_scene : mg "is_scene" = some (.ref (He.ga K "is_scene"))
  glo_is_sequence : mg "is_sequence" = some (.ref (He.ga K "is_sequence"))
  glo_is_tuple : mg "is_tuple" = some (.ref (He.ga K "is_tuple"))
  glo_told : mg "told" = some (.ref (He.ga K "told"))
  free_abs : mg "abs" = none
  free_all : mg "all" = none
  free_any : mg "any" = none
  free_bool : mg "bool" = none
  free_dict : mg "dict" = none
  free_divmod : mg "divmod" = none
  free_int : mg "int" = none
  free_isinstance : mg "isinstance" = none
  free_len : mg "len" = none
  free_list : mg "list" = none
  free_max : mg "max" = none
  free_min : mg "min" = none
  free_range : mg "range" = none
  free_set : mg "set" = none
  free_sorted : mg "sorted" = none
  free_str : mg "str" = none
  free_tuple : mg "tuple" = none
  free_zip : mg "zip" = none
  meth_World_deed : Meth K (He.ga K "World") "deed" (He.ma K (He.ga K "World") "deed")
  cls_World : Cls K (He.ga K "World")
  meth_World_scenes : Meth K (He.ga K "World") "scenes" (He.ma K (He.ga K "World") "scenes")
  mk_Deed : Mk K (He.ga K "Deed") (He.ma K (He.ga K "Deed") "__init__")
  mk_World : Mk K (He.ga K "World") (He.ma K (He.ga K "World") "__init__")
  str_DIGITS : ∃ t, mg "DIGITS" = some (.str "0123456789" t)
  str_LETTERS : ∃ t, mg "LETTERS" = some (.str "abcdefghijklmnopqrstuvwxyz" t)
  tup_RESERVED : ∃ vs, (∀ H, SqN K H (He.ga K "RESERVED") vs) ∧ RDs ⟨K, mg⟩ k_RESERVED vs
  fld_cells : ClsOf ⟨K, mg⟩ cls_cells "cells"
  fld_deeds : ClsOf ⟨K, mg⟩ cls_deeds "deeds"
  fld_name : ClsOf ⟨K, mg⟩ cls_name "name"
  fld_needs : ClsOf ⟨K, mg⟩ cls_needs "needs"
  fld_sets : ClsOf ⟨K, mg⟩ cls_sets "sets"
  fld_tells : ClsOf ⟨K, mg⟩ cls_tells "tells"
  cm_Deed_read : ClsM K "Deed" "read"
  oeq_Deed : OwnEq K "Deed"
  ostr_Deed : OwnStr K "Deed"
  xc_InvalidDeed : XB K "InvalidDeed" "word"
  xc_InvalidText : XB K "InvalidText" "at"
  xc_InvalidWorld : XB K "InvalidWorld" "word"
  dfl_Deed___init___0 : ∃ vs, (∀ H, SqN K H (He.dflAt ("Deed", some "__init__") 0 K) vs) ∧ RDs ⟨K, mg⟩ [] vs
  dfl_Deed___init___1 : ∃ vs, (∀ H, SqN K H (He.dflAt ("Deed", some "__init__") 1 K) vs) ∧ RDs ⟨K, mg⟩ [] vs
  dfl_Deed___init___2 : ∃ vs, (∀ H, SqN K H (He.dflAt ("Deed", some "__init__") 2 K) vs) ∧ RDs ⟨K, mg⟩ [] vs
  dfl_done_0 : ∃ vs, (∀ H, SqN K H (He.dflAt ("done", none) 0 K) vs) ∧ RDs ⟨K, mg⟩ [] vs
  tab : TabOk ⟨K, mg⟩ tbI
  insty : InsTy ⟨K, mg⟩ clsI
variable {P : Program} {w : World} {K : PySem.W.Frag} {mg : Str → Option Value} {base : Heap}
def s_Wk_Deed___init___1_tells_sets_needs_name : List Sel := [.p 0, .k 3, .k 2, .k 1, .k 0]
def s_Wk_Deed___init___4 : List Sel := [.p 0, .p 1, .p 2, .p 3, .d 2]
def s_Wc_Deed_read_1_text : List Sel := [.p 0, .k 0]
def s_Wk_World___init___1_deeds_cells : List Sel := [.p 0, .k 1, .k 0]
def s_Wk_World_deed_1_name : List Sel := [.p 0, .k 0]
def s_Wk_done_0_name_scene_world : List Sel := [.k 2, .k 1, .k 0, .d 0]
def s_Wk_done_3_old : List Sel := [.p 0, .p 1, .p 2, .k 0]
def s_Wk_done_3 : List Sel := [.p 0, .p 1, .p 2, .d 0]
def s_Wk_told_0_answer_name_world : List Sel := [.k 2, .k 1, .k 0]
def N_digits_of : List Str := ["number", "parts", "rest", "part"]
theorem sc_digits_of : FnScope N_digits_of ["number"] (defScope (top 11)) := ⟨rfl, rfl, rfl, by decide +kernel, rfl, by decide +kernel, by decide +kernel⟩
def c_digits_of : CS :=
  (cSeq (cAsg (cLst caNil) (gNam 1))
  (cSeq (cAsg (cVar 0) (gNam 2))
  (cSeq (cWhile (cTest (cOp (cmpM fun i j => decide (j ≤ i)) (cVar 2) (cOp powM (cC (.int 10)) (cC (.int 64))))) (cSeq (cAsg (cB divmodM (caCons (cVar 2) (caCons (cOp powM (cC (.int 10)) (cC (.int 64))) caNil))) (gSeqM 2 (gsCons (gNam 2) (gsCons (gNam 3) gsNil))))
  (cDrop (cM "list" (appM) (cVar 1) (caCons (cM "str" (zfillM) (cB strAllM (caCons (cVar 3) caNil)) (caCons (cC (.int 64)) caNil)) caNil)))))
  (cSeq (cDrop (cM "list" (appM) (cVar 1) (caCons (cB strAllM (caCons (cVar 2) caNil)) caNil)))
  (cRet (cM "str" (joinM) (cC (.str "")) (caCons (cRevL (cVar 1)) caNil)))))))
def m_digits_of : List AV → CM AV := cFn 4 c_digits_of
def a_digits_of : List AV := []
theorem b_digits_of {f : Addr} (g : Gf K mg) (cdv : Value) (A : Around) (outer : List Env) (s : Shared) (H : Hp) (E : XK)
    (hr : Room 0 (A.deeper (envOfC "digits_of" (defScope (top 11)) s.heap.objs.size f cdv))) :
    PSs (cxOf (L2.CX P w) P w K mg base N_digits_of "digits_of" (defScope (top 11)) f cdv A outer s H E) (defBody (top 11)) (tS ⟨K, mg⟩ E c_digits_of) := by
  have hp := passes_of (X := cxOf (L2.CX P w) P w K mg base N_digits_of "digits_of" (defScope (top 11)) f cdv A outer s H E) rfl
  have hx : Passes (L2.CX P w) (cxOf (L2.CX P w) P w K mg base N_digits_of "digits_of" (defScope (top 11)) f cdv A outer s H E) E := passes_call (takes_of rfl rfl rfl rfl) fun _ _ _ _ h => h
  have ht : Takes (cxOf (L2.CX P w) P w K mg base N_digits_of "digits_of" (defScope (top 11)) f cdv A outer s H E) (fun cls d _ H => E cls d H) := takes_of rfl rfl rfl rfl
  exact (s_cons (s_set 1 sc_digits_of.nd (e_lst a_nil))
  (s_cons (s_set 2 sc_digits_of.nd (e_var 0))
  (s_cons (s_while hp (y_cmp (b_ge) (e_var 2) (x_pow e_int e_int)) (s_cons (s_asg (e_callB (x := "divmod") cr_divmod ca_divmod (by rfl) (g.free_divmod) PyProof.Rows.boot_divmod (a_cons (e_var 2) (a_cons (x_pow e_int e_int) a_nil))) (g_of (S := [2, 3]) (h_seq rfl (h_cons (h_name 2 (by decide) sc_digits_of.nd) (h_cons (h_name 3 (by decide) sc_digits_of.nd) h_nil)))) (gok_seq (gsok_cons (gsok_cons gsok_nil))))
  (s_one (s_expr (e_m PySem.F.plainAttrs_list PySem.F.slot_list_append PySem.F.type_list_append L2.mt_append ms_app (e_var 1) (a_cons (e_m PySem.F.plainAttrs_str PySem.F.slot_str_zfill PySem.F.type_str_zfill L2.mt_zfill ms_zfill (e_callTy (x := "str") cr_strAll ca_strAll (by rfl) (g.free_str) PyProof.Rows.boot_str (a_cons (e_var 3) a_nil)) (a_cons e_int a_nil)) a_nil))))))
  (s_cons (s_expr (e_m PySem.F.plainAttrs_list PySem.F.slot_list_append PySem.F.type_list_append L2.mt_append ms_app (e_var 1) (a_cons (e_callTy (x := "str") cr_strAll ca_strAll (by rfl) (g.free_str) PyProof.Rows.boot_str (a_cons (e_var 2) a_nil)) a_nil)))
  (s_one (s_ret (e_m PySem.F.plainAttrs_str PySem.F.slot_str_join PySem.F.type_str_join mt_join ms_join e_str (a_cons (e_rev (e_var 1)) a_nil))))))))
def N__parts_text : List Str := ["deed", "parts", "cell", "how", "number", "value"]
theorem sc__parts_text : FnScope N__parts_text ["deed"] (defScope (top 33)) := ⟨rfl, rfl, rfl, by decide +kernel, rfl, by decide +kernel, by decide +kernel⟩
def c__parts_text : CS :=
  (cSeq (cAsg (cLc (iAny (cFld cls_needs "needs" (cVar 0))) (gSeqM 2 (gsCons (gNam 2) (gsCons (gNam 5) gsNil))) cYes (cJs [(cC (.str "needs ")), (cFmt (cVar 2)), (cC (.str " ")), (cFmt (cCall 1 m_digits_of [] (caCons (cVar 5) caNil)))] Str.empty) [2, 5]) (gNam 1))
  (cSeq (cFor (iAny (cFld cls_sets "sets" (cVar 0))) (gSeqM 3 (gsCons (gNam 2) (gsCons (gNam 3) (gsCons (gNam 4) gsNil)))) (cDrop (cM "list" (appM) (cVar 1) (caCons (cIf (cTest (cOp (eqM false) (cVar 3) (cC (.str "back")))) (cJs [(cFmt (cVar 2)), (cC (.str " back"))] Str.empty) (cJs [(cFmt (cVar 2)), (cC (.str " ")), (cFmt (cVar 3)), (cC (.str " ")), (cFmt (cCall 1 m_digits_of [] (caCons (cVar 4) caNil)))] Str.empty)) caNil))))
  (cSeq (cDrop (cM "list" (extM) (cVar 1) (caCons (cLc (iAny (cFld cls_tells "tells" (cVar 0))) (gNam 2) cYes (cJs [(cC (.str "tells ")), (cFmt (cVar 2))] Str.empty) [2]) caNil)))
  (cRet (cIf (cTru (cVar 1)) (cM "str" (joinM) (cC (.str ", ")) (caCons (cVar 1) caNil)) (cC (.str "nothing")))))))
def m__parts_text : List AV → CM AV := cFn 6 c__parts_text
def a__parts_text : List AV := []
theorem b__parts_text {f : Addr} (g : Gf K mg) (F_digits_of : Has P w K mg base 1 ("digits_of", none) ["number"] m_digits_of) (cdv : Value) (A : Around) (outer : List Env) (s : Shared) (H : Hp) (E : XK)
    (hr : Room 1 (A.deeper (envOfC "_parts_text" (defScope (top 33)) s.heap.objs.size f cdv))) :
    PSs (cxOf (L2.CX P w) P w K mg base N__parts_text "_parts_text" (defScope (top 33)) f cdv A outer s H E) (defBody (top 33)) (tS ⟨K, mg⟩ E c__parts_text) := by
  have hp := passes_of (X := cxOf (L2.CX P w) P w K mg base N__parts_text "_parts_text" (defScope (top 33)) f cdv A outer s H E) rfl
  have hx : Passes (L2.CX P w) (cxOf (L2.CX P w) P w K mg base N__parts_text "_parts_text" (defScope (top 33)) f cdv A outer s H E) E := passes_call (takes_of rfl rfl rfl rfl) fun _ _ _ _ h => h
  have ht : Takes (cxOf (L2.CX P w) P w K mg base N__parts_text "_parts_text" (defScope (top 33)) f cdv A outer s H E) (fun cls d _ H => E cls d H) := takes_of rfl rfl rfl rfl
  exact (s_cons (by (refine s_setLc (own := [("cell", 2), ("value", 5)]) 1 rfl sc__parts_text.nd ?a ?b ?c ?d ?e ?f ?g ?h); (case a => rfl); (case b => rfl); (case c => rfl); (case d => exact (i_any (e_fld (g.fld_needs) (e_var 0)))); (case e => exact blkOk_by (N := N__parts_text) (sc := defScope (top 33)) (own := [("cell", 2), ("value", 5)]) (by decide +kernel)); (case f => intro _ _ _ _ _; exact (h_seq rfl (h_cons (h_name 2 (by decide) sc__parts_text.nd) (h_cons (h_name 5 (by decide) sc__parts_text.nd) h_nil)))); (case g => intro _ _ _ _ _; exact ts_nil); (case h => intro _ _ _ _ _; exact (e_js (.cons e_str (.cons (e_fmt (e_var 2)) (.cons e_str (.cons (e_fmt (x_call (X := ((cxOf (L2.CX P w) P w K mg base N__parts_text "_parts_text" (defScope (top 33)) f cdv A outer s H E).blk _ _ _ _ _)) (ps := ["number"]) (F_digits_of) hr (by decide) (g.glo_digits_of) passL (a_cons (e_var 5) a_nil))) .nil)))))))
  (s_cons (s_for hp rfl (i_any (e_fld (g.fld_sets) (e_var 0))) (g_of (S := [2, 3, 4]) (h_seq rfl (h_cons (h_name 2 (by decide) sc__parts_text.nd) (h_cons (h_name 3 (by decide) sc__parts_text.nd) (h_cons (h_name 4 (by decide) sc__parts_text.nd) h_nil))))) (s_one (s_expr (e_m PySem.F.plainAttrs_list PySem.F.slot_list_append PySem.F.type_list_append L2.mt_append ms_app (e_var 1) (a_cons (e_if (y_cmp (b_eq hr) (e_var 3) e_str) (e_js (.cons (e_fmt (e_var 2)) (.cons e_str .nil))) (e_js (.cons (e_fmt (e_var 2)) (.cons e_str (.cons (e_fmt (e_var 3)) (.cons e_str (.cons (e_fmt (x_call (ps := ["number"]) (F_digits_of) hr (by decide) (g.glo_digits_of) hx (a_cons (e_var 4) a_nil))) .nil))))))) a_nil)))))
  (s_cons (s_expr (e_m PySem.F.plainAttrs_list PySem.F.slot_list_extend PySem.F.type_list_extend mt_extend ms_ext (e_var 1) (a_cons (by (refine e_lc (own := [("cell", 2)]) rfl sc__parts_text.nd ?d ?e ?f ?g ?h); (case d => exact (i_any (e_fld (g.fld_tells) (e_var 0)))); (case e => exact blkOk_by (N := N__parts_text) (sc := defScope (top 33)) (own := [("cell", 2)]) (by decide +kernel)); (case f => intro _ _ _ _ _; exact (h_name 2 (by decide) sc__parts_text.nd)); (case g => intro _ _ _ _ _; exact ts_nil); (case h => intro _ _ _ _ _; exact (e_js (.cons e_str (.cons (e_fmt (e_var 2)) .nil))))) a_nil)))
  (s_one (s_ret (e_if (t_tru (e_var 1)) (e_m PySem.F.plainAttrs_str PySem.F.slot_str_join PySem.F.type_str_join mt_join ms_join e_str (a_cons (e_var 1) a_nil)) e_str))))))
def N_Deed___str__ : List Str := ["self"]
theorem sc_Deed___str__ : FnScope N_Deed___str__ ["self"] (defScope (cb (top 20) 3)) := ⟨rfl, rfl, rfl, by decide +kernel, rfl, by decide +kernel, by decide +kernel⟩
def c_Deed___str__ : CS :=
  (cRet (cJs [(cC (.str "deed ")), (cFmt (cFld cls_name "name" (cVar 0))), (cC (.str ": ")), (cFmt (cCall 1 m__parts_text [] (caCons (cVar 0) caNil)))] Str.empty))
def m_Deed___str__ : List AV → CM AV := cFn 1 c_Deed___str__
def a_Deed___str__ : List AV := []
theorem b_Deed___str__ {f : Addr} (g : Gf K mg) (F__parts_text : Has P w K mg base 2 ("_parts_text", none) ["deed"] m__parts_text) (cdv : Value) (A : Around) (outer : List Env) (s : Shared) (H : Hp) (E : XK)
    (hr : Room 2 (A.deeper (envOfC "Deed.__str__" (defScope (cb (top 20) 3)) s.heap.objs.size f cdv))) :
    PSs (cxOf (L2.CX P w) P w K mg base N_Deed___str__ "Deed.__str__" (defScope (cb (top 20) 3)) f cdv A outer s H E) (defBody (cb (top 20) 3)) (tS ⟨K, mg⟩ E c_Deed___str__) := by
  have hp := passes_of (X := cxOf (L2.CX P w) P w K mg base N_Deed___str__ "Deed.__str__" (defScope (cb (top 20) 3)) f cdv A outer s H E) rfl
  have hx : Passes (L2.CX P w) (cxOf (L2.CX P w) P w K mg base N_Deed___str__ "Deed.__str__" (defScope (cb (top 20) 3)) f cdv A outer s H E) E := passes_call (takes_of rfl rfl rfl rfl) fun _ _ _ _ h => h
  have ht : Takes (cxOf (L2.CX P w) P w K mg base N_Deed___str__ "Deed.__str__" (defScope (cb (top 20) 3)) f cdv A outer s H E) (fun cls d _ H => E cls d H) := takes_of rfl rfl rfl rfl
  exact (s_one (s_ret (e_js (.cons e_str (.cons (e_fmt (e_fld (g.fld_name) (e_var 0))) (.cons e_str (.cons (e_fmt (x_call (ps := ["deed"]) (F__parts_text) hr (by decide) (g.glo__parts_text) hx (a_cons (e_var 0) a_nil))) .nil)))))))
def N_Deed___eq__ : List Str := ["self", "other"]
theorem sc_Deed___eq__ : FnScope N_Deed___eq__ ["self", "other"] (defScope (cb (top 20) 2)) := ⟨rfl, rfl, rfl, by decide +kernel, rfl, by decide +kernel, by decide +kernel⟩
def c_Deed___eq__ : CS :=
  (cRet (cAndV (cB (isiM tbI clsI) (caCons (cVar 1) (caCons (cC (.glo "Deed")) caNil))) (cOp (eqM false) (cAlt (cB strAllM (caCons (cVar 0) caNil)) (cStrO "Deed" m_Deed___str__ (cVar 0))) (cAlt (cB strAllM (caCons (cVar 1) caNil)) (cStrO "Deed" m_Deed___str__ (cVar 1))))))
def m_Deed___eq__ : List AV → CM AV := cFn 2 c_Deed___eq__
def a_Deed___eq__ : List AV := []
theorem b_Deed___eq__ {f : Addr} (g : Gf K mg) (F_Deed___str__ : Has P w K mg base 3 ("Deed", some "__str__") ["self"] m_Deed___str__) (cdv : Value) (A : Around) (outer : List Env) (s : Shared) (H : Hp) (E : XK)
    (hr : Room 5 (A.deeper (envOfC "Deed.__eq__" (defScope (cb (top 20) 2)) s.heap.objs.size f cdv))) :
    PSs (cxOf (L2.CX P w) P w K mg base N_Deed___eq__ "Deed.__eq__" (defScope (cb (top 20) 2)) f cdv A outer s H E) (defBody (cb (top 20) 2)) (tS ⟨K, mg⟩ E c_Deed___eq__) := by
  have hp := passes_of (X := cxOf (L2.CX P w) P w K mg base N_Deed___eq__ "Deed.__eq__" (defScope (cb (top 20) 2)) f cdv A outer s H E) rfl
  have hx : Passes (L2.CX P w) (cxOf (L2.CX P w) P w K mg base N_Deed___eq__ "Deed.__eq__" (defScope (cb (top 20) 2)) f cdv A outer s H E) E := passes_call (takes_of rfl rfl rfl rfl) fun _ _ _ _ h => h
  have ht : Takes (cxOf (L2.CX P w) P w K mg base N_Deed___eq__ "Deed.__eq__" (defScope (cb (top 20) 2)) f cdv A outer s H E) (fun cls d _ H => E cls d H) := takes_of rfl rfl rfl rfl
  exact (s_one (s_ret (e_and (x_isi g.tab g.insty g.free_isinstance (a_cons (e_var 1) (a_cons (e_glo (x := "Deed") (by rfl) g.glo_Deed) a_nil))) (pe_one (x_cmp (b_eq hr) (e_alt (e_callTy (x := "str") cr_strAll ca_strAll (by rfl) (g.free_str) PyProof.Rows.boot_str (a_cons (e_var 0) a_nil)) (x_strO F_Deed___str__ hr (by decide) g.ostr_Deed g.glo_Deed g.free_str hx (e_var 0))) (e_alt (e_callTy (x := "str") cr_strAll ca_strAll (by rfl) (g.free_str) PyProof.Rows.boot_str (a_cons (e_var 1) a_nil)) (x_strO F_Deed___str__ hr (by decide) g.ostr_Deed g.glo_Deed g.free_str hx (e_var 1))))))))
def N_are_different : List Str := ["values"]
theorem sc_are_different : FnScope N_are_different ["values"] (defScope (top 10)) := ⟨rfl, rfl, rfl, by decide +kernel, rfl, by decide +kernel, by decide +kernel⟩
def c_are_different : CS :=
  (cRet (cOp (eqM false) (cAlt (cLenSet (cVar 0)) (cLenSetT (cVar 0))) (cB lenM (caCons (cVar 0) caNil))))
def m_are_different : List AV → CM AV := cFn 1 c_are_different
def a_are_different : List AV := []
theorem b_are_different {f : Addr} (g : Gf K mg) (cdv : Value) (A : Around) (outer : List Env) (s : Shared) (H : Hp) (E : XK)
    (hr : Room 0 (A.deeper (envOfC "are_different" (defScope (top 10)) s.heap.objs.size f cdv))) :
    PSs (cxOf (L2.CX P w) P w K mg base N_are_different "are_different" (defScope (top 10)) f cdv A outer s H E) (defBody (top 10)) (tS ⟨K, mg⟩ E c_are_different) := by
  have hp := passes_of (X := cxOf (L2.CX P w) P w K mg base N_are_different "are_different" (defScope (top 10)) f cdv A outer s H E) rfl
  have hx : Passes (L2.CX P w) (cxOf (L2.CX P w) P w K mg base N_are_different "are_different" (defScope (top 10)) f cdv A outer s H E) E := passes_call (takes_of rfl rfl rfl rfl) fun _ _ _ _ h => h
  have ht : Takes (cxOf (L2.CX P w) P w K mg base N_are_different "are_different" (defScope (top 10)) f cdv A outer s H E) (fun cls d _ H => E cls d H) := takes_of rfl rfl rfl rfl
  exact (s_one (s_ret (x_cmp (b_eq hr) (e_alt (x_lenSet rfl g.free_len g.free_set (e_var 0)) (x_lenSetT hr rfl g.free_len g.free_set (e_var 0))) (e_callB (x := "len") call_lenAll ca_len (by rfl) (g.free_len) PySem.boot_len (a_cons (e_var 0) a_nil)))))
def N_is_name : List Str := ["value", "letter"]
theorem sc_is_name : FnScope N_is_name ["value"] (defScope (top 6)) := ⟨rfl, rfl, rfl, by decide +kernel, rfl, by decide +kernel, by decide +kernel⟩
def c_is_name : CS :=
  (cSeq (cWhen (cOr (cNot (cTru (cB (isiM tbI clsI) (caCons (cVar 0) (caCons (cC (.ty "str")) caNil))))) (cNot (cTest (cChain (cmpM fun i j => decide (i ≤ j)) (cmpM fun i j => decide (i ≤ j)) (cC (.int 1)) (cB lenM (caCons (cVar 0) caNil)) (cC (.int 4)))))) (cRet (cC (.bl false))) cNext)
  (cRet (cAndV (cB allM (caCons (cLc (iAny (cVar 0)) (gNam 1) cYes (cOp (inM false) (cVar 1) (cC (.str "abcdefghijklmnopqrstuvwxyz"))) [1]) caNil)) (cOp (inM true) (cVar 0) (cC (.tup k_RESERVED))))))
def m_is_name : List AV → CM AV := cFn 2 c_is_name
def a_is_name : List AV := []
theorem b_is_name {f : Addr} (g : Gf K mg) (cdv : Value) (A : Around) (outer : List Env) (s : Shared) (H : Hp) (E : XK)
    (hr : Room 0 (A.deeper (envOfC "is_name" (defScope (top 6)) s.heap.objs.size f cdv))) :
    PSs (cxOf (L2.CX P w) P w K mg base N_is_name "is_name" (defScope (top 6)) f cdv A outer s H E) (defBody (top 6)) (tS ⟨K, mg⟩ E c_is_name) := by
  have hp := passes_of (X := cxOf (L2.CX P w) P w K mg base N_is_name "is_name" (defScope (top 6)) f cdv A outer s H E) rfl
  have hx : Passes (L2.CX P w) (cxOf (L2.CX P w) P w K mg base N_is_name "is_name" (defScope (top 6)) f cdv A outer s H E) E := passes_call (takes_of rfl rfl rfl rfl) fun _ _ _ _ h => h
  have ht : Takes (cxOf (L2.CX P w) P w K mg base N_is_name "is_name" (defScope (top 6)) f cdv A outer s H E) (fun cls d _ H => E cls d H) := takes_of rfl rfl rfl rfl
  exact (s_cons (s_if (PW.pt (w_or (t_not (t_tru (x_isi g.tab g.insty g.free_isinstance (a_cons (e_var 0) (a_cons (e_ty (x := "str") (by rfl) (g.free_str) (by decide +kernel)) a_nil))))) (pw_or1 (t_not (y_chain (b_le) (b_le) e_int (e_callB (x := "len") call_lenAll ca_len (by rfl) (g.free_len) PySem.boot_len (a_cons (e_var 0) a_nil)) e_int))))) (s_one (s_ret e_bl)) s_nil)
  (s_one (s_ret (e_and (e_callB (x := "all") (cr_all (by rfl)) ca_all (by rfl) (g.free_all) PyProof.Rows.boot_all (a_cons (by (refine e_lc (own := [("letter", 1)]) rfl sc_is_name.nd ?d ?e ?f ?g ?h); (case d => exact (i_any (e_var 0))); (case e => exact blkOk_by (N := N_is_name) (sc := defScope (top 6)) (own := [("letter", 1)]) (by decide +kernel)); (case f => intro _ _ _ _ _; exact (h_name 1 (by decide) sc_is_name.nd)); (case g => intro _ _ _ _ _; exact ts_nil); (case h => intro _ _ _ _ _; exact (x_cmp (b_in hr) (e_var 1) (e_gstr (g.str_LETTERS))))) a_nil)) (pe_one (x_cmp (b_notin hr) (e_var 0) (e_gtup g.glo_RESERVED (g.tup_RESERVED))))))))
def N__are_different_cells : List Str := ["rows", "cells", "row", "cell"]
theorem sc__are_different_cells : FnScope N__are_different_cells ["rows"] (defScope (top 29)) := ⟨rfl, rfl, rfl, by decide +kernel, rfl, by decide +kernel, by decide +kernel⟩
def c__are_different_cells : CS :=
  (cSeq (cAsg (cLc (iAny (cVar 0)) (gNam 2) cYes (cOp idxDM (cVar 2) (cC (.int 0))) [2]) (gNam 1))
  (cRet (cAndV (cB allM (caCons (cLc (iAny (cVar 1)) (gNam 3) cYes (cCall 1 m_is_name [] (caCons (cVar 3) caNil)) [3]) caNil)) (cCall 1 m_are_different [] (caCons (cVar 1) caNil)))))
def m__are_different_cells : List AV → CM AV := cFn 4 c__are_different_cells
def a__are_different_cells : List AV := []
theorem b__are_different_cells {f : Addr} (g : Gf K mg) (F_are_different : Has P w K mg base 1 ("are_different", none) ["values"] m_are_different) (F_is_name : Has P w K mg base 1 ("is_name", none) ["value"] m_is_name) (cdv : Value) (A : Around) (outer : List Env) (s : Shared) (H : Hp) (E : XK)
    (hr : Room 1 (A.deeper (envOfC "_are_different_cells" (defScope (top 29)) s.heap.objs.size f cdv))) :
    PSs (cxOf (L2.CX P w) P w K mg base N__are_different_cells "_are_different_cells" (defScope (top 29)) f cdv A outer s H E) (defBody (top 29)) (tS ⟨K, mg⟩ E c__are_different_cells) := by
  have hp := passes_of (X := cxOf (L2.CX P w) P w K mg base N__are_different_cells "_are_different_cells" (defScope (top 29)) f cdv A outer s H E) rfl
  have hx : Passes (L2.CX P w) (cxOf (L2.CX P w) P w K mg base N__are_different_cells "_are_different_cells" (defScope (top 29)) f cdv A outer s H E) E := passes_call (takes_of rfl rfl rfl rfl) fun _ _ _ _ h => h
  have ht : Takes (cxOf (L2.CX P w) P w K mg base N__are_different_cells "_are_different_cells" (defScope (top 29)) f cdv A outer s H E) (fun cls d _ H => E cls d H) := takes_of rfl rfl rfl rfl
  exact (s_cons (by (refine s_setLc (own := [("row", 2)]) 1 rfl sc__are_different_cells.nd ?a ?b ?c ?d ?e ?f ?g ?h); (case a => rfl); (case b => rfl); (case c => rfl); (case d => exact (i_any (e_var 0))); (case e => exact blkOk_by (N := N__are_different_cells) (sc := defScope (top 29)) (own := [("row", 2)]) (by decide +kernel)); (case f => intro _ _ _ _ _; exact (h_name 2 (by decide) sc__are_different_cells.nd)); (case g => intro _ _ _ _ _; exact ts_nil); (case h => intro _ _ _ _ _; exact (x_ix hr (e_var 2) e_int)))
  (s_one (s_ret (e_and (e_callB (x := "all") (cr_all (by rfl)) ca_all (by rfl) (g.free_all) PyProof.Rows.boot_all (a_cons (by (refine e_lc (own := [("cell", 3)]) rfl sc__are_different_cells.nd ?d ?e ?f ?g ?h); (case d => exact (i_any (e_var 1))); (case e => exact blkOk_by (N := N__are_different_cells) (sc := defScope (top 29)) (own := [("cell", 3)]) (by decide +kernel)); (case f => intro _ _ _ _ _; exact (h_name 3 (by decide) sc__are_different_cells.nd)); (case g => intro _ _ _ _ _; exact ts_nil); (case h => intro _ _ _ _ _; exact (x_call (X := ((cxOf (L2.CX P w) P w K mg base N__are_different_cells "_are_different_cells" (defScope (top 29)) f cdv A outer s H E).blk _ _ _ _ _)) (ps := ["value"]) (F_is_name) hr (by decide) (g.glo_is_name) passL (a_cons (e_var 3) a_nil)))) a_nil)) (pe_one (x_call (ps := ["values"]) (F_are_different) hr (by decide) (g.glo_are_different) hx (a_cons (e_var 1) a_nil)))))))
def N_is_integer : List Str := ["value"]
theorem sc_is_integer : FnScope N_is_integer ["value"] (defScope (top 4)) := ⟨rfl, rfl, rfl, by decide +kernel, rfl, by decide +kernel, by decide +kernel⟩
def c_is_integer : CS :=
  (cRet (cAndV (cB (isiM tbI clsI) (caCons (cVar 0) (caCons (cC (.ty "int")) caNil))) (cNotV (cB (isiM tbI clsI) (caCons (cVar 0) (caCons (cC (.ty "bool")) caNil))))))
def m_is_integer : List AV → CM AV := cFn 1 c_is_integer
def a_is_integer : List AV := []
theorem b_is_integer {f : Addr} (g : Gf K mg) (cdv : Value) (A : Around) (outer : List Env) (s : Shared) (H : Hp) (E : XK)
    (hr : Room 0 (A.deeper (envOfC "is_integer" (defScope (top 4)) s.heap.objs.size f cdv))) :
    PSs (cxOf (L2.CX P w) P w K mg base N_is_integer "is_integer" (defScope (top 4)) f cdv A outer s H E) (defBody (top 4)) (tS ⟨K, mg⟩ E c_is_integer) := by
  have hp := passes_of (X := cxOf (L2.CX P w) P w K mg base N_is_integer "is_integer" (defScope (top 4)) f cdv A outer s H E) rfl
  have hx : Passes (L2.CX P w) (cxOf (L2.CX P w) P w K mg base N_is_integer "is_integer" (defScope (top 4)) f cdv A outer s H E) E := passes_call (takes_of rfl rfl rfl rfl) fun _ _ _ _ h => h
  have ht : Takes (cxOf (L2.CX P w) P w K mg base N_is_integer "is_integer" (defScope (top 4)) f cdv A outer s H E) (fun cls d _ H => E cls d H) := takes_of rfl rfl rfl rfl
  exact (s_one (s_ret (e_and (x_isi g.tab g.insty g.free_isinstance (a_cons (e_var 0) (a_cons (e_ty (x := "int") (by rfl) (g.free_int) (by decide +kernel)) a_nil))) (pe_one (e_not (x_isi g.tab g.insty g.free_isinstance (a_cons (e_var 0) (a_cons (e_ty (x := "bool") (by rfl) (g.free_bool) (by decide +kernel)) a_nil))))))))
def N_is_number : List Str := ["value"]
theorem sc_is_number : FnScope N_is_number ["value"] (defScope (top 5)) := ⟨rfl, rfl, rfl, by decide +kernel, rfl, by decide +kernel, by decide +kernel⟩
def c_is_number : CS :=
  (cRet (cAndV (cCall 1 m_is_integer [] (caCons (cVar 0) caNil)) (cOp (cmpM fun i j => decide (j ≤ i)) (cVar 0) (cC (.int 0)))))
def m_is_number : List AV → CM AV := cFn 1 c_is_number
def a_is_number : List AV := []
theorem b_is_number {f : Addr} (g : Gf K mg) (F_is_integer : Has P w K mg base 1 ("is_integer", none) ["value"] m_is_integer) (cdv : Value) (A : Around) (outer : List Env) (s : Shared) (H : Hp) (E : XK)
    (hr : Room 1 (A.deeper (envOfC "is_number" (defScope (top 5)) s.heap.objs.size f cdv))) :
    PSs (cxOf (L2.CX P w) P w K mg base N_is_number "is_number" (defScope (top 5)) f cdv A outer s H E) (defBody (top 5)) (tS ⟨K, mg⟩ E c_is_number) := by
  have hp := passes_of (X := cxOf (L2.CX P w) P w K mg base N_is_number "is_number" (defScope (top 5)) f cdv A outer s H E) rfl
  have hx : Passes (L2.CX P w) (cxOf (L2.CX P w) P w K mg base N_is_number "is_number" (defScope (top 5)) f cdv A outer s H E) E := passes_call (takes_of rfl rfl rfl rfl) fun _ _ _ _ h => h
  have ht : Takes (cxOf (L2.CX P w) P w K mg base N_is_number "is_number" (defScope (top 5)) f cdv A outer s H E) (fun cls d _ H => E cls d H) := takes_of rfl rfl rfl rfl
  exact (s_one (s_ret (e_and (x_call (ps := ["value"]) (F_is_integer) hr (by decide) (g.glo_is_integer) hx (a_cons (e_var 0) a_nil)) (pe_one (x_cmp (b_ge) (e_var 0) e_int)))))
def N_is_sequence : List Str := ["value"]
theorem sc_is_sequence : FnScope N_is_sequence ["value"] (defScope (top 7)) := ⟨rfl, rfl, rfl, by decide +kernel, rfl, by decide +kernel, by decide +kernel⟩
def c_is_sequence : CS :=
  (cRet (cB (isiM tbI clsI) (caCons (cVar 0) (caCons (cTup (caCons (cC (.ty "list")) (caCons (cC (.ty "tuple")) caNil))) caNil))))
def m_is_sequence : List AV → CM AV := cFn 1 c_is_sequence
def a_is_sequence : List AV := []
theorem b_is_sequence {f : Addr} (g : Gf K mg) (cdv : Value) (A : Around) (outer : List Env) (s : Shared) (H : Hp) (E : XK)
    (hr : Room 0 (A.deeper (envOfC "is_sequence" (defScope (top 7)) s.heap.objs.size f cdv))) :
    PSs (cxOf (L2.CX P w) P w K mg base N_is_sequence "is_sequence" (defScope (top 7)) f cdv A outer s H E) (defBody (top 7)) (tS ⟨K, mg⟩ E c_is_sequence) := by
  have hp := passes_of (X := cxOf (L2.CX P w) P w K mg base N_is_sequence "is_sequence" (defScope (top 7)) f cdv A outer s H E) rfl
  have hx : Passes (L2.CX P w) (cxOf (L2.CX P w) P w K mg base N_is_sequence "is_sequence" (defScope (top 7)) f cdv A outer s H E) E := passes_call (takes_of rfl rfl rfl rfl) fun _ _ _ _ h => h
  have ht : Takes (cxOf (L2.CX P w) P w K mg base N_is_sequence "is_sequence" (defScope (top 7)) f cdv A outer s H E) (fun cls d _ H => E cls d H) := takes_of rfl rfl rfl rfl
  exact (s_one (s_ret (x_isi g.tab g.insty g.free_isinstance (a_cons (e_var 0) (a_cons (e_tup (a_cons (e_ty (x := "list") (by rfl) (g.free_list) (by decide +kernel)) (a_cons (e_ty (x := "tuple") (by rfl) (g.free_tuple) (by decide +kernel)) a_nil))) a_nil)))))
def N_is_tuple : List Str := ["value", "size"]
theorem sc_is_tuple : FnScope N_is_tuple ["value", "size"] (defScope (top 8)) := ⟨rfl, rfl, rfl, by decide +kernel, rfl, by decide +kernel, by decide +kernel⟩
def c_is_tuple : CS :=
  (cRet (cAndV (cB (isiM tbI clsI) (caCons (cVar 0) (caCons (cC (.ty "tuple")) caNil))) (cOp (eqM false) (cB lenM (caCons (cVar 0) caNil)) (cVar 1))))
def m_is_tuple : List AV → CM AV := cFn 2 c_is_tuple
def a_is_tuple : List AV := []
theorem b_is_tuple {f : Addr} (g : Gf K mg) (cdv : Value) (A : Around) (outer : List Env) (s : Shared) (H : Hp) (E : XK)
    (hr : Room 0 (A.deeper (envOfC "is_tuple" (defScope (top 8)) s.heap.objs.size f cdv))) :
    PSs (cxOf (L2.CX P w) P w K mg base N_is_tuple "is_tuple" (defScope (top 8)) f cdv A outer s H E) (defBody (top 8)) (tS ⟨K, mg⟩ E c_is_tuple) := by
  have hp := passes_of (X := cxOf (L2.CX P w) P w K mg base N_is_tuple "is_tuple" (defScope (top 8)) f cdv A outer s H E) rfl
  have hx : Passes (L2.CX P w) (cxOf (L2.CX P w) P w K mg base N_is_tuple "is_tuple" (defScope (top 8)) f cdv A outer s H E) E := passes_call (takes_of rfl rfl rfl rfl) fun _ _ _ _ h => h
  have ht : Takes (cxOf (L2.CX P w) P w K mg base N_is_tuple "is_tuple" (defScope (top 8)) f cdv A outer s H E) (fun cls d _ H => E cls d H) := takes_of rfl rfl rfl rfl
  exact (s_one (s_ret (e_and (x_isi g.tab g.insty g.free_isinstance (a_cons (e_var 0) (a_cons (e_ty (x := "tuple") (by rfl) (g.free_tuple) (by decide +kernel)) a_nil))) (pe_one (x_cmp (b_eq hr) (e_callB (x := "len") call_lenAll ca_len (by rfl) (g.free_len) PySem.boot_len (a_cons (e_var 0) a_nil)) (e_var 1))))))
def N__are_needs : List Str := ["value", "row", "_", "number"]
theorem sc__are_needs : FnScope N__are_needs ["value"] (defScope (top 25)) := ⟨rfl, rfl, rfl, by decide +kernel, rfl, by decide +kernel, by decide +kernel⟩
def c__are_needs : CS :=
  (cSeq (cWhen (cOr (cNot (cTru (cCall 1 m_is_sequence [] (caCons (cVar 0) caNil)))) (cNot (cTru (cB allM (caCons (cLc (iAny (cVar 0)) (gNam 1) cYes (cCall 2 m_is_tuple [] (caCons (cVar 1) (caCons (cC (.int 2)) caNil))) [1]) caNil))))) (cRet (cC (.bl false))) cNext)
  (cRet (cAndV (cCall 1 m__are_different_cells [] (caCons (cVar 0) caNil)) (cB allM (caCons (cLc (iAny (cVar 0)) (gSeqM 2 (gsCons (gNam 2) (gsCons (gNam 3) gsNil))) cYes (cCall 1 m_is_number [] (caCons (cVar 3) caNil)) [2, 3]) caNil)))))
def m__are_needs : List AV → CM AV := cFn 4 c__are_needs
def a__are_needs : List AV := []
theorem b__are_needs {f : Addr} (g : Gf K mg) (F__are_different_cells : Has P w K mg base 2 ("_are_different_cells", none) ["rows"] m__are_different_cells) (F_is_number : Has P w K mg base 2 ("is_number", none) ["value"] m_is_number) (F_is_sequence : Has P w K mg base 1 ("is_sequence", none) ["value"] m_is_sequence) (F_is_tuple : Has P w K mg base 1 ("is_tuple", none) ["value", "size"] m_is_tuple) (cdv : Value) (A : Around) (outer : List Env) (s : Shared) (H : Hp) (E : XK)
    (hr : Room 2 (A.deeper (envOfC "_are_needs" (defScope (top 25)) s.heap.objs.size f cdv))) :
    PSs (cxOf (L2.CX P w) P w K mg base N__are_needs "_are_needs" (defScope (top 25)) f cdv A outer s H E) (defBody (top 25)) (tS ⟨K, mg⟩ E c__are_needs) := by
  have hp := passes_of (X := cxOf (L2.CX P w) P w K mg base N__are_needs "_are_needs" (defScope (top 25)) f cdv A outer s H E) rfl
  have hx : Passes (L2.CX P w) (cxOf (L2.CX P w) P w K mg base N__are_needs "_are_needs" (defScope (top 25)) f cdv A outer s H E) E := passes_call (takes_of rfl rfl rfl rfl) fun _ _ _ _ h => h
  have ht : Takes (cxOf (L2.CX P w) P w K mg base N__are_needs "_are_needs" (defScope (top 25)) f cdv A outer s H E) (fun cls d _ H => E cls d H) := takes_of rfl rfl rfl rfl
  exact (s_cons (s_if (PW.pt (w_or (t_not (t_tru (x_call (ps := ["value"]) (F_is_sequence) hr (by decide) (g.glo_is_sequence) hx (a_cons (e_var 0) a_nil)))) (pw_or1 (t_not (t_tru (e_callB (x := "all") (cr_all (by rfl)) ca_all (by rfl) (g.free_all) PyProof.Rows.boot_all (a_cons (by (refine e_lc (own := [("row", 1)]) rfl sc__are_needs.nd ?d ?e ?f ?g ?h); (case d => exact (i_any (e_var 0))); (case e => exact blkOk_by (N := N__are_needs) (sc := defScope (top 25)) (own := [("row", 1)]) (by decide +kernel)); (case f => intro _ _ _ _ _; exact (h_name 1 (by decide) sc__are_needs.nd)); (case g => intro _ _ _ _ _; exact ts_nil); (case h => intro _ _ _ _ _; exact (x_call (X := ((cxOf (L2.CX P w) P w K mg base N__are_needs "_are_needs" (defScope (top 25)) f cdv A outer s H E).blk _ _ _ _ _)) (ps := ["value", "size"]) (F_is_tuple) hr (by decide) (g.glo_is_tuple) passL (a_cons (e_var 1) (a_cons e_int a_nil))))) a_nil))))))) (s_one (s_ret e_bl)) s_nil)
  (s_one (s_ret (e_and (x_call (ps := ["rows"]) (F__are_different_cells) hr (by decide) (g.glo__are_different_cells) hx (a_cons (e_var 0) a_nil)) (pe_one (e_callB (x := "all") (cr_all (by rfl)) ca_all (by rfl) (g.free_all) PyProof.Rows.boot_all (a_cons (by (refine e_lc (own := [("_", 2), ("number", 3)]) rfl sc__are_needs.nd ?d ?e ?f ?g ?h); (case d => exact (i_any (e_var 0))); (case e => exact blkOk_by (N := N__are_needs) (sc := defScope (top 25)) (own := [("_", 2), ("number", 3)]) (by decide +kernel)); (case f => intro _ _ _ _ _; exact (h_seq rfl (h_cons (h_name 2 (by decide) sc__are_needs.nd) (h_cons (h_name 3 (by decide) sc__are_needs.nd) h_nil)))); (case g => intro _ _ _ _ _; exact ts_nil); (case h => intro _ _ _ _ _; exact (x_call (X := ((cxOf (L2.CX P w) P w K mg base N__are_needs "_are_needs" (defScope (top 25)) f cdv A outer s H E).blk _ _ _ _ _)) (ps := ["value"]) (F_is_number) hr (by decide) (g.glo_is_number) passL (a_cons (e_var 3) a_nil)))) a_nil)))))))
def N__is_setting : List Str := ["how", "number"]
theorem sc__is_setting : FnScope N__is_setting ["how", "number"] (defScope (top 27)) := ⟨rfl, rfl, rfl, by decide +kernel, rfl, by decide +kernel, by decide +kernel⟩
def c__is_setting : CS :=
  (cSeq (cWhen (cOr (cNot (cTru (cB (isiM tbI clsI) (caCons (cVar 0) (caCons (cC (.ty "str")) caNil))))) (cNot (cTru (cCall 1 m_is_integer [] (caCons (cVar 1) caNil))))) (cRet (cC (.bl false))) cNext)
  (cSeq (cWhen (cTest (cOp (eqM false) (cVar 0) (cC (.str "back")))) (cRet (cOp (eqM false) (cVar 1) (cC (.int 0)))) cNext)
  (cRet (cOrV (cAndV (cOp (eqM false) (cVar 0) (cC (.str "to"))) (cOp (cmpM fun i j => decide (j ≤ i)) (cVar 1) (cC (.int 0)))) (cAndV (cOp (eqM false) (cVar 0) (cC (.str "by"))) (cOp (cmpM fun i j => decide (j ≤ i)) (cVar 1) (cC (.int 1))))))))
def m__is_setting : List AV → CM AV := cFn 2 c__is_setting
def a__is_setting : List AV := []
theorem b__is_setting {f : Addr} (g : Gf K mg) (F_is_integer : Has P w K mg base 1 ("is_integer", none) ["value"] m_is_integer) (cdv : Value) (A : Around) (outer : List Env) (s : Shared) (H : Hp) (E : XK)
    (hr : Room 1 (A.deeper (envOfC "_is_setting" (defScope (top 27)) s.heap.objs.size f cdv))) :
    PSs (cxOf (L2.CX P w) P w K mg base N__is_setting "_is_setting" (defScope (top 27)) f cdv A outer s H E) (defBody (top 27)) (tS ⟨K, mg⟩ E c__is_setting) := by
  have hp := passes_of (X := cxOf (L2.CX P w) P w K mg base N__is_setting "_is_setting" (defScope (top 27)) f cdv A outer s H E) rfl
  have hx : Passes (L2.CX P w) (cxOf (L2.CX P w) P w K mg base N__is_setting "_is_setting" (defScope (top 27)) f cdv A outer s H E) E := passes_call (takes_of rfl rfl rfl rfl) fun _ _ _ _ h => h
  have ht : Takes (cxOf (L2.CX P w) P w K mg base N__is_setting "_is_setting" (defScope (top 27)) f cdv A outer s H E) (fun cls d _ H => E cls d H) := takes_of rfl rfl rfl rfl
  exact (s_cons (s_if (PW.pt (w_or (t_not (t_tru (x_isi g.tab g.insty g.free_isinstance (a_cons (e_var 0) (a_cons (e_ty (x := "str") (by rfl) (g.free_str) (by decide +kernel)) a_nil))))) (pw_or1 (t_not (t_tru (x_call (ps := ["value"]) (F_is_integer) hr (by decide) (g.glo_is_integer) hx (a_cons (e_var 1) a_nil))))))) (s_one (s_ret e_bl)) s_nil)
  (s_cons (s_if (y_cmp (b_eq hr) (e_var 0) e_str) (s_one (s_ret (x_cmp (b_eq hr) (e_var 1) e_int))) s_nil)
  (s_one (s_ret (e_or (e_and (x_cmp (b_eq hr) (e_var 0) e_str) (pe_one (x_cmp (b_ge) (e_var 1) e_int))) (pe_one (e_and (x_cmp (b_eq hr) (e_var 0) e_str) (pe_one (x_cmp (b_ge) (e_var 1) e_int)))))))))
def N__are_sets : List Str := ["value", "row", "_", "how", "number"]
theorem sc__are_sets : FnScope N__are_sets ["value"] (defScope (top 26)) := ⟨rfl, rfl, rfl, by decide +kernel, rfl, by decide +kernel, by decide +kernel⟩
def c__are_sets : CS :=
  (cSeq (cWhen (cOr (cNot (cTru (cCall 1 m_is_sequence [] (caCons (cVar 0) caNil)))) (cNot (cTru (cB allM (caCons (cLc (iAny (cVar 0)) (gNam 1) cYes (cCall 2 m_is_tuple [] (caCons (cVar 1) (caCons (cC (.int 3)) caNil))) [1]) caNil))))) (cRet (cC (.bl false))) cNext)
  (cRet (cAndV (cCall 1 m__are_different_cells [] (caCons (cVar 0) caNil)) (cB allM (caCons (cLc (iAny (cVar 0)) (gSeqM 3 (gsCons (gNam 2) (gsCons (gNam 3) (gsCons (gNam 4) gsNil)))) cYes (cCall 2 m__is_setting [] (caCons (cVar 3) (caCons (cVar 4) caNil))) [2, 3, 4]) caNil)))))
def m__are_sets : List AV → CM AV := cFn 5 c__are_sets
def a__are_sets : List AV := []
theorem b__are_sets {f : Addr} (g : Gf K mg) (F__are_different_cells : Has P w K mg base 2 ("_are_different_cells", none) ["rows"] m__are_different_cells) (F__is_setting : Has P w K mg base 2 ("_is_setting", none) ["how", "number"] m__is_setting) (F_is_sequence : Has P w K mg base 1 ("is_sequence", none) ["value"] m_is_sequence) (F_is_tuple : Has P w K mg base 1 ("is_tuple", none) ["value", "size"] m_is_tuple) (cdv : Value) (A : Around) (outer : List Env) (s : Shared) (H : Hp) (E : XK)
    (hr : Room 2 (A.deeper (envOfC "_are_sets" (defScope (top 26)) s.heap.objs.size f cdv))) :
    PSs (cxOf (L2.CX P w) P w K mg base N__are_sets "_are_sets" (defScope (top 26)) f cdv A outer s H E) (defBody (top 26)) (tS ⟨K, mg⟩ E c__are_sets) := by
  have hp := passes_of (X := cxOf (L2.CX P w) P w K mg base N__are_sets "_are_sets" (defScope (top 26)) f cdv A outer s H E) rfl
  have hx : Passes (L2.CX P w) (cxOf (L2.CX P w) P w K mg base N__are_sets "_are_sets" (defScope (top 26)) f cdv A outer s H E) E := passes_call (takes_of rfl rfl rfl rfl) fun _ _ _ _ h => h
  have ht : Takes (cxOf (L2.CX P w) P w K mg base N__are_sets "_are_sets" (defScope (top 26)) f cdv A outer s H E) (fun cls d _ H => E cls d H) := takes_of rfl rfl rfl rfl
  exact (s_cons (s_if (PW.pt (w_or (t_not (t_tru (x_call (ps := ["value"]) (F_is_sequence) hr (by decide) (g.glo_is_sequence) hx (a_cons (e_var 0) a_nil)))) (pw_or1 (t_not (t_tru (e_callB (x := "all") (cr_all (by rfl)) ca_all (by rfl) (g.free_all) PyProof.Rows.boot_all (a_cons (by (refine e_lc (own := [("row", 1)]) rfl sc__are_sets.nd ?d ?e ?f ?g ?h); (case d => exact (i_any (e_var 0))); (case e => exact blkOk_by (N := N__are_sets) (sc := defScope (top 26)) (own := [("row", 1)]) (by decide +kernel)); (case f => intro _ _ _ _ _; exact (h_name 1 (by decide) sc__are_sets.nd)); (case g => intro _ _ _ _ _; exact ts_nil); (case h => intro _ _ _ _ _; exact (x_call (X := ((cxOf (L2.CX P w) P w K mg base N__are_sets "_are_sets" (defScope (top 26)) f cdv A outer s H E).blk _ _ _ _ _)) (ps := ["value", "size"]) (F_is_tuple) hr (by decide) (g.glo_is_tuple) passL (a_cons (e_var 1) (a_cons e_int a_nil))))) a_nil))))))) (s_one (s_ret e_bl)) s_nil)
  (s_one (s_ret (e_and (x_call (ps := ["rows"]) (F__are_different_cells) hr (by decide) (g.glo__are_different_cells) hx (a_cons (e_var 0) a_nil)) (pe_one (e_callB (x := "all") (cr_all (by rfl)) ca_all (by rfl) (g.free_all) PyProof.Rows.boot_all (a_cons (by (refine e_lc (own := [("_", 2), ("how", 3), ("number", 4)]) rfl sc__are_sets.nd ?d ?e ?f ?g ?h); (case d => exact (i_any (e_var 0))); (case e => exact blkOk_by (N := N__are_sets) (sc := defScope (top 26)) (own := [("_", 2), ("how", 3), ("number", 4)]) (by decide +kernel)); (case f => intro _ _ _ _ _; exact (h_seq rfl (h_cons (h_name 2 (by decide) sc__are_sets.nd) (h_cons (h_name 3 (by decide) sc__are_sets.nd) (h_cons (h_name 4 (by decide) sc__are_sets.nd) h_nil))))); (case g => intro _ _ _ _ _; exact ts_nil); (case h => intro _ _ _ _ _; exact (x_call (X := ((cxOf (L2.CX P w) P w K mg base N__are_sets "_are_sets" (defScope (top 26)) f cdv A outer s H E).blk _ _ _ _ _)) (ps := ["how", "number"]) (F__is_setting) hr (by decide) (g.glo__is_setting) passL (a_cons (e_var 3) (a_cons (e_var 4) a_nil))))) a_nil)))))))
def N__are_tells : List Str := ["value", "cell"]
theorem sc__are_tells : FnScope N__are_tells ["value"] (defScope (top 28)) := ⟨rfl, rfl, rfl, by decide +kernel, rfl, by decide +kernel, by decide +kernel⟩
def c__are_tells : CS :=
  (cRet (cAndV (cCall 1 m_is_sequence [] (caCons (cVar 0) caNil)) (cAndV (cB allM (caCons (cLc (iAny (cVar 0)) (gNam 1) cYes (cCall 1 m_is_name [] (caCons (cVar 1) caNil)) [1]) caNil)) (cCall 1 m_are_different [] (caCons (cVar 0) caNil)))))
def m__are_tells : List AV → CM AV := cFn 2 c__are_tells
def a__are_tells : List AV := []
theorem b__are_tells {f : Addr} (g : Gf K mg) (F_are_different : Has P w K mg base 1 ("are_different", none) ["values"] m_are_different) (F_is_name : Has P w K mg base 1 ("is_name", none) ["value"] m_is_name) (F_is_sequence : Has P w K mg base 1 ("is_sequence", none) ["value"] m_is_sequence) (cdv : Value) (A : Around) (outer : List Env) (s : Shared) (H : Hp) (E : XK)
    (hr : Room 1 (A.deeper (envOfC "_are_tells" (defScope (top 28)) s.heap.objs.size f cdv))) :
    PSs (cxOf (L2.CX P w) P w K mg base N__are_tells "_are_tells" (defScope (top 28)) f cdv A outer s H E) (defBody (top 28)) (tS ⟨K, mg⟩ E c__are_tells) := by
  have hp := passes_of (X := cxOf (L2.CX P w) P w K mg base N__are_tells "_are_tells" (defScope (top 28)) f cdv A outer s H E) rfl
  have hx : Passes (L2.CX P w) (cxOf (L2.CX P w) P w K mg base N__are_tells "_are_tells" (defScope (top 28)) f cdv A outer s H E) E := passes_call (takes_of rfl rfl rfl rfl) fun _ _ _ _ h => h
  have ht : Takes (cxOf (L2.CX P w) P w K mg base N__are_tells "_are_tells" (defScope (top 28)) f cdv A outer s H E) (fun cls d _ H => E cls d H) := takes_of rfl rfl rfl rfl
  exact (s_one (s_ret (e_and (x_call (ps := ["value"]) (F_is_sequence) hr (by decide) (g.glo_is_sequence) hx (a_cons (e_var 0) a_nil)) (e_and (e_callB (x := "all") (cr_all (by rfl)) ca_all (by rfl) (g.free_all) PyProof.Rows.boot_all (a_cons (by (refine e_lc (own := [("cell", 1)]) rfl sc__are_tells.nd ?d ?e ?f ?g ?h); (case d => exact (i_any (e_var 0))); (case e => exact blkOk_by (N := N__are_tells) (sc := defScope (top 28)) (own := [("cell", 1)]) (by decide +kernel)); (case f => intro _ _ _ _ _; exact (h_name 1 (by decide) sc__are_tells.nd)); (case g => intro _ _ _ _ _; exact ts_nil); (case h => intro _ _ _ _ _; exact (x_call (X := ((cxOf (L2.CX P w) P w K mg base N__are_tells "_are_tells" (defScope (top 28)) f cdv A outer s H E).blk _ _ _ _ _)) (ps := ["value"]) (F_is_name) hr (by decide) (g.glo_is_name) passL (a_cons (e_var 1) a_nil)))) a_nil)) (pe_one (x_call (ps := ["values"]) (F_are_different) hr (by decide) (g.glo_are_different) hx (a_cons (e_var 0) a_nil)))))))
def N_Deed___init__ : List Str := ["self", "name", "needs", "sets", "tells"]
theorem sc_Deed___init__ : FnScope N_Deed___init__ ["self", "name", "needs", "sets", "tells"] (defScope (cb (top 20) 0)) := ⟨rfl, rfl, rfl, by decide +kernel, rfl, by decide +kernel, by decide +kernel⟩
def c_Deed___init__ : CS :=
  (cSeq (cWhen (cNot (cTru (cCall 1 m_is_name [] (caCons (cVar 1) caNil)))) (cRaise "InvalidDeed" "word" (cC (.str "name"))) cNext)
  (cSeq (cWhen (cNot (cTru (cCall 1 m__are_needs [] (caCons (cVar 2) caNil)))) (cRaise "InvalidDeed" "word" (cC (.str "needs"))) cNext)
  (cSeq (cWhen (cNot (cTru (cCall 1 m__are_sets [] (caCons (cVar 3) caNil)))) (cRaise "InvalidDeed" "word" (cC (.str "sets"))) cNext)
  (cSeq (cWhen (cNot (cTru (cCall 1 m__are_tells [] (caCons (cVar 4) caNil)))) (cRaise "InvalidDeed" "word" (cC (.str "tells"))) cNext)
  (cSeq (cSetF cls_name "name" (cVar 1) (cVar 0))
  (cSeq (cSetF cls_needs "needs" (cB tupleM (caCons (cB sortXM (caCons (cVar 2) caNil)) caNil)) (cVar 0))
  (cSeq (cSetF cls_sets "sets" (cB tupleM (caCons (cB sortXM (caCons (cVar 3) caNil)) caNil)) (cVar 0))
  (cSetF cls_tells "tells" (cB tupleM (caCons (cB sortXM (caCons (cVar 4) caNil)) caNil)) (cVar 0)))))))))
def m_Deed___init__ : List AV → CM AV := cFn 5 c_Deed___init__
def a_Deed___init__ : List AV := [.tup [], .tup [], .tup []]
theorem b_Deed___init__ {f : Addr} (g : Gf K mg) (X_InvalidDeed : XC P w K mg base "InvalidDeed" "word") (F__are_needs : Has P w K mg base 3 ("_are_needs", none) ["value"] m__are_needs) (F__are_sets : Has P w K mg base 3 ("_are_sets", none) ["value"] m__are_sets) (F__are_tells : Has P w K mg base 2 ("_are_tells", none) ["value"] m__are_tells) (F_is_name : Has P w K mg base 1 ("is_name", none) ["value"] m_is_name) (cdv : Value) (A : Around) (outer : List Env) (s : Shared) (H : Hp) (E : XK)
    (hr : Room 3 (A.deeper (envOfC "Deed.__init__" (defScope (cb (top 20) 0)) s.heap.objs.size f cdv))) :
    PSs (cxOf (L2.CX P w) P w K mg base N_Deed___init__ "Deed.__init__" (defScope (cb (top 20) 0)) f cdv A outer s H E) (defBody (cb (top 20) 0)) (tS ⟨K, mg⟩ E c_Deed___init__) := by
  have hp := passes_of (X := cxOf (L2.CX P w) P w K mg base N_Deed___init__ "Deed.__init__" (defScope (cb (top 20) 0)) f cdv A outer s H E) rfl
  have hx : Passes (L2.CX P w) (cxOf (L2.CX P w) P w K mg base N_Deed___init__ "Deed.__init__" (defScope (cb (top 20) 0)) f cdv A outer s H E) E := passes_call (takes_of rfl rfl rfl rfl) fun _ _ _ _ h => h
  have ht : Takes (cxOf (L2.CX P w) P w K mg base N_Deed___init__ "Deed.__init__" (defScope (cb (top 20) 0)) f cdv A outer s H E) (fun cls d _ H => E cls d H) := takes_of rfl rfl rfl rfl
  exact (s_cons (s_if (t_not (t_tru (x_call (ps := ["value"]) (F_is_name) hr (by decide) (g.glo_is_name) hx (a_cons (e_var 1) a_nil)))) (s_one (s_raise X_InvalidDeed hr (by decide) ht g.glo_InvalidDeed e_str)) s_nil)
  (s_cons (s_if (t_not (t_tru (x_call (ps := ["value"]) (F__are_needs) hr (by decide) (g.glo__are_needs) hx (a_cons (e_var 2) a_nil)))) (s_one (s_raise X_InvalidDeed hr (by decide) ht g.glo_InvalidDeed e_str)) s_nil)
  (s_cons (s_if (t_not (t_tru (x_call (ps := ["value"]) (F__are_sets) hr (by decide) (g.glo__are_sets) hx (a_cons (e_var 3) a_nil)))) (s_one (s_raise X_InvalidDeed hr (by decide) ht g.glo_InvalidDeed e_str)) s_nil)
  (s_cons (s_if (t_not (t_tru (x_call (ps := ["value"]) (F__are_tells) hr (by decide) (g.glo__are_tells) hx (a_cons (e_var 4) a_nil)))) (s_one (s_raise X_InvalidDeed hr (by decide) ht g.glo_InvalidDeed e_str)) s_nil)
  (s_cons (s_fld (g.fld_name) (e_var 0) (e_var 1))
  (s_cons (s_fld (g.fld_needs) (e_var 0) (e_callTy (x := "tuple") cr_tupN ca_tuple (by rfl) (g.free_tuple) PyProof.Rows.boot_tuple (a_cons (e_callB (x := "sorted") cr_sortXI ca_sortX (by rfl) (g.free_sorted) PyProof.Rows.boot_sorted (a_cons (e_var 2) a_nil)) a_nil)))
  (s_cons (s_fld (g.fld_sets) (e_var 0) (e_callTy (x := "tuple") cr_tupN ca_tuple (by rfl) (g.free_tuple) PyProof.Rows.boot_tuple (a_cons (e_callB (x := "sorted") cr_sortXI ca_sortX (by rfl) (g.free_sorted) PyProof.Rows.boot_sorted (a_cons (e_var 3) a_nil)) a_nil)))
  (s_one (s_fld (g.fld_tells) (e_var 0) (e_callTy (x := "tuple") cr_tupN ca_tuple (by rfl) (g.free_tuple) PyProof.Rows.boot_tuple (a_cons (e_callB (x := "sorted") cr_sortXI ca_sortX (by rfl) (g.free_sorted) PyProof.Rows.boot_sorted (a_cons (e_var 4) a_nil)) a_nil)))))))))))
def N_is_number_text : List Str := ["text", "digit"]
theorem sc_is_number_text : FnScope N_is_number_text ["text"] (defScope (top 9)) := ⟨rfl, rfl, rfl, by decide +kernel, rfl, by decide +kernel, by decide +kernel⟩
def c_is_number_text : CS :=
  (cSeq (cWhen (cOr (cNot (cTest (cChain (cmpM fun i j => decide (i ≤ j)) (cmpM fun i j => decide (i ≤ j)) (cC (.int 1)) (cB lenM (caCons (cVar 0) caNil)) (cC (.int 4))))) (cNot (cTru (cB allM (caCons (cLc (iAny (cVar 0)) (gNam 1) cYes (cOp (inM false) (cVar 1) (cC (.str "0123456789"))) [1]) caNil))))) (cRet (cC (.bl false))) cNext)
  (cRet (cOrV (cOp (eqM false) (cVar 0) (cC (.str "0"))) (cOp (eqM true) (cOp idxDM (cVar 0) (cC (.int 0))) (cC (.str "0"))))))
def m_is_number_text : List AV → CM AV := cFn 2 c_is_number_text
def a_is_number_text : List AV := []
theorem b_is_number_text {f : Addr} (g : Gf K mg) (cdv : Value) (A : Around) (outer : List Env) (s : Shared) (H : Hp) (E : XK)
    (hr : Room 0 (A.deeper (envOfC "is_number_text" (defScope (top 9)) s.heap.objs.size f cdv))) :
    PSs (cxOf (L2.CX P w) P w K mg base N_is_number_text "is_number_text" (defScope (top 9)) f cdv A outer s H E) (defBody (top 9)) (tS ⟨K, mg⟩ E c_is_number_text) := by
  have hp := passes_of (X := cxOf (L2.CX P w) P w K mg base N_is_number_text "is_number_text" (defScope (top 9)) f cdv A outer s H E) rfl
  have hx : Passes (L2.CX P w) (cxOf (L2.CX P w) P w K mg base N_is_number_text "is_number_text" (defScope (top 9)) f cdv A outer s H E) E := passes_call (takes_of rfl rfl rfl rfl) fun _ _ _ _ h => h
  have ht : Takes (cxOf (L2.CX P w) P w K mg base N_is_number_text "is_number_text" (defScope (top 9)) f cdv A outer s H E) (fun cls d _ H => E cls d H) := takes_of rfl rfl rfl rfl
  exact (s_cons (s_if (PW.pt (w_or (t_not (y_chain (b_le) (b_le) e_int (e_callB (x := "len") call_lenAll ca_len (by rfl) (g.free_len) PySem.boot_len (a_cons (e_var 0) a_nil)) e_int)) (pw_or1 (t_not (t_tru (e_callB (x := "all") (cr_all (by rfl)) ca_all (by rfl) (g.free_all) PyProof.Rows.boot_all (a_cons (by (refine e_lc (own := [("digit", 1)]) rfl sc_is_number_text.nd ?d ?e ?f ?g ?h); (case d => exact (i_any (e_var 0))); (case e => exact blkOk_by (N := N_is_number_text) (sc := defScope (top 9)) (own := [("digit", 1)]) (by decide +kernel)); (case f => intro _ _ _ _ _; exact (h_name 1 (by decide) sc_is_number_text.nd)); (case g => intro _ _ _ _ _; exact ts_nil); (case h => intro _ _ _ _ _; exact (x_cmp (b_in hr) (e_var 1) (e_gstr (g.str_DIGITS))))) a_nil))))))) (s_one (s_ret e_bl)) s_nil)
  (s_one (s_ret (e_or (x_cmp (b_eq hr) (e_var 0) e_str) (pe_one (x_cmp (b_ne hr) (x_ix hr (e_var 0) e_int) e_str))))))
def N__take_part : List Str := ["words", "needs", "sets", "tells"]
theorem sc__take_part : FnScope N__take_part ["words", "needs", "sets", "tells"] (defScope (top 35)) := ⟨rfl, rfl, rfl, by decide +kernel, rfl, by decide +kernel, by decide +kernel⟩
def c__take_part : CS :=
  (cSeq (cWhen (cAnd (cTest (cOp (eqM false) (cB lenM (caCons (cVar 0) caNil)) (cC (.int 2)))) (cTest (cOp (eqM false) (cOp idxDM (cVar 0) (cC (.int 0))) (cC (.str "tells"))))) (cDrop (cM "list" (appM) (cVar 3) (caCons (cOp idxDM (cVar 0) (cC (.int 1))) caNil))) (cWhen (cAnd (cTest (cOp (eqM false) (cB lenM (caCons (cVar 0) caNil)) (cC (.int 2)))) (cTest (cOp (eqM false) (cOp idxDM (cVar 0) (cC (.int 1))) (cC (.str "back"))))) (cDrop (cM "list" (appM) (cVar 2) (caCons (cTup (caCons (cOp idxDM (cVar 0) (cC (.int 0))) (caCons (cC (.str "back")) (caCons (cC (.int 0)) caNil)))) caNil))) (cWhen (cOr (cTest (cOp (eqM true) (cB lenM (caCons (cVar 0) caNil)) (cC (.int 3)))) (cNot (cTru (cCall 1 m_is_number_text [] (caCons (cOp idxDM (cVar 0) (cC (.int 2))) caNil))))) (cRet (cC (.bl false))) (cWhen (cTest (cOp (eqM false) (cOp idxDM (cVar 0) (cC (.int 0))) (cC (.str "needs")))) (cDrop (cM "list" (appM) (cVar 1) (caCons (cTup (caCons (cOp idxDM (cVar 0) (cC (.int 1))) (caCons (cB intM (caCons (cOp idxDM (cVar 0) (cC (.int 2))) caNil)) caNil))) caNil))) (cWhen (cTest (cOp (inM false) (cOp idxDM (cVar 0) (cC (.int 1))) (cTup (caCons (cC (.str "to")) (caCons (cC (.str "by")) caNil))))) (cDrop (cM "list" (appM) (cVar 2) (caCons (cTup (caCons (cOp idxDM (cVar 0) (cC (.int 0))) (caCons (cOp idxDM (cVar 0) (cC (.int 1))) (caCons (cB intM (caCons (cOp idxDM (cVar 0) (cC (.int 2))) caNil)) caNil)))) caNil))) (cRet (cC (.bl false))))))))
  (cRet (cC (.bl true))))
def m__take_part : List AV → CM AV := cFn 4 c__take_part
def a__take_part : List AV := []
theorem b__take_part {f : Addr} (g : Gf K mg) (F_is_number_text : Has P w K mg base 1 ("is_number_text", none) ["text"] m_is_number_text) (cdv : Value) (A : Around) (outer : List Env) (s : Shared) (H : Hp) (E : XK)
    (hr : Room 1 (A.deeper (envOfC "_take_part" (defScope (top 35)) s.heap.objs.size f cdv))) :
    PSs (cxOf (L2.CX P w) P w K mg base N__take_part "_take_part" (defScope (top 35)) f cdv A outer s H E) (defBody (top 35)) (tS ⟨K, mg⟩ E c__take_part) := by
  have hp := passes_of (X := cxOf (L2.CX P w) P w K mg base N__take_part "_take_part" (defScope (top 35)) f cdv A outer s H E) rfl
  have hx : Passes (L2.CX P w) (cxOf (L2.CX P w) P w K mg base N__take_part "_take_part" (defScope (top 35)) f cdv A outer s H E) E := passes_call (takes_of rfl rfl rfl rfl) fun _ _ _ _ h => h
  have ht : Takes (cxOf (L2.CX P w) P w K mg base N__take_part "_take_part" (defScope (top 35)) f cdv A outer s H E) (fun cls d _ H => E cls d H) := takes_of rfl rfl rfl rfl
  exact (s_cons (s_if (PW.pt (w_and (y_cmp (b_eq hr) (e_callB (x := "len") call_lenAll ca_len (by rfl) (g.free_len) PySem.boot_len (a_cons (e_var 0) a_nil)) e_int) (pw_and1 (y_cmp (b_eq hr) (x_ix hr (e_var 0) e_int) e_str)))) (s_one (s_expr (e_m PySem.F.plainAttrs_list PySem.F.slot_list_append PySem.F.type_list_append L2.mt_append ms_app (e_var 3) (a_cons (x_ix hr (e_var 0) e_int) a_nil)))) (s_one (s_if (PW.pt (w_and (y_cmp (b_eq hr) (e_callB (x := "len") call_lenAll ca_len (by rfl) (g.free_len) PySem.boot_len (a_cons (e_var 0) a_nil)) e_int) (pw_and1 (y_cmp (b_eq hr) (x_ix hr (e_var 0) e_int) e_str)))) (s_one (s_expr (e_m PySem.F.plainAttrs_list PySem.F.slot_list_append PySem.F.type_list_append L2.mt_append ms_app (e_var 2) (a_cons (e_tup (a_cons (x_ix hr (e_var 0) e_int) (a_cons e_str (a_cons e_int a_nil)))) a_nil)))) (s_one (s_if (PW.pt (w_or (y_cmp (b_ne hr) (e_callB (x := "len") call_lenAll ca_len (by rfl) (g.free_len) PySem.boot_len (a_cons (e_var 0) a_nil)) e_int) (pw_or1 (t_not (t_tru (x_call (ps := ["text"]) (F_is_number_text) hr (by decide) (g.glo_is_number_text) hx (a_cons (x_ix hr (e_var 0) e_int) a_nil))))))) (s_one (s_ret e_bl)) (s_one (s_if (y_cmp (b_eq hr) (x_ix hr (e_var 0) e_int) e_str) (s_one (s_expr (e_m PySem.F.plainAttrs_list PySem.F.slot_list_append PySem.F.type_list_append L2.mt_append ms_app (e_var 1) (a_cons (e_tup (a_cons (x_ix hr (e_var 0) e_int) (a_cons (e_callTy (x := "int") call_int ca_int (by rfl) (g.free_int) PyProof.Rows.boot_int (a_cons (x_ix hr (e_var 0) e_int) a_nil)) a_nil))) a_nil)))) (s_one (s_if (y_cmp (b_in hr) (x_ix hr (e_var 0) e_int) (e_tup (a_cons e_str (a_cons e_str a_nil)))) (s_one (s_expr (e_m PySem.F.plainAttrs_list PySem.F.slot_list_append PySem.F.type_list_append L2.mt_append ms_app (e_var 2) (a_cons (e_tup (a_cons (x_ix hr (e_var 0) e_int) (a_cons (x_ix hr (e_var 0) e_int) (a_cons (e_callTy (x := "int") call_int ca_int (by rfl) (g.free_int) PyProof.Rows.boot_int (a_cons (x_ix hr (e_var 0) e_int) a_nil)) a_nil)))) a_nil)))) (s_one (s_ret e_bl)))))))))))
  (s_one (s_ret e_bl)))
def N__read_deed : List Str := ["text", "words", "parts", "part", "head", "_", "tail", "needs", "sets", "tells"]
theorem sc__read_deed : FnScope N__read_deed ["text"] (defScope (top 34)) := ⟨rfl, rfl, rfl, by decide +kernel, rfl, by decide +kernel, by decide +kernel⟩
def c__read_deed : CS :=
  (cSeq (cWhen (cNot (cTru (cB (isiM tbI clsI) (caCons (cVar 0) (caCons (cC (.ty "str")) caNil))))) (cRet (cC .non)) cNext)
  (cSeq (cAsg (cM "str" (partM) (cVar 0) (caCons (cC (.str ": ")) caNil)) (gSeqM 3 (gsCons (gNam 4) (gsCons (gNam 5) (gsCons (gNam 6) gsNil)))))
  (cSeq (cAsg (cM "str" (splitM) (cVar 4) (caCons (cC (.str " ")) caNil)) (gNam 1))
  (cSeq (cWhen (cOr (cTest (cOp (eqM true) (cB lenM (caCons (cVar 1) caNil)) (cC (.int 2)))) (cOr (cTest (cOp (eqM true) (cOp idxDM (cVar 1) (cC (.int 0))) (cC (.str "deed")))) (cNot (cTru (cCall 1 m_is_name [] (caCons (cOp idxDM (cVar 1) (cC (.int 1))) caNil)))))) (cRet (cC .non)) cNext)
  (cSeq (cPar3 7 8 9 (caCons (cLst caNil) (caCons (cLst caNil) (caCons (cLst caNil) caNil))))
  (cSeq (cAsg (cIf (cTest (cOp (eqM false) (cVar 6) (cC (.str "nothing")))) (cLst caNil) (cM "str" (splitM) (cVar 6) (caCons (cC (.str ", ")) caNil))) (gNam 2))
  (cSeq (cFor (iAny (cVar 2)) (gNam 3) (cWhen (cNot (cTru (cCall 4 m__take_part [] (caCons (cM "str" (splitM) (cVar 3) (caCons (cC (.str " ")) caNil)) (caCons (cVar 7) (caCons (cVar 8) (caCons (cVar 9) caNil))))))) (cRet (cC .non)) cNext))
  (cSeq (cWhen (cNot (cAnd (cTru (cCall 1 m__are_needs [] (caCons (cVar 7) caNil))) (cAnd (cTru (cCall 1 m__are_sets [] (caCons (cVar 8) caNil))) (cTru (cCall 1 m__are_tells [] (caCons (cVar 9) caNil)))))) (cRet (cC .non)) cNext)
  (cRet (cTup (caCons (cOp idxDM (cVar 1) (cC (.int 1))) (caCons (cVar 7) (caCons (cVar 8) (caCons (cVar 9) caNil))))))))))))))
def m__read_deed : List AV → CM AV := cFn 10 c__read_deed
def a__read_deed : List AV := []
theorem b__read_deed {f : Addr} (g : Gf K mg) (F__are_needs : Has P w K mg base 3 ("_are_needs", none) ["value"] m__are_needs) (F__are_sets : Has P w K mg base 3 ("_are_sets", none) ["value"] m__are_sets) (F__are_tells : Has P w K mg base 2 ("_are_tells", none) ["value"] m__are_tells) (F__take_part : Has P w K mg base 2 ("_take_part", none) ["words", "needs", "sets", "tells"] m__take_part) (F_is_name : Has P w K mg base 1 ("is_name", none) ["value"] m_is_name) (cdv : Value) (A : Around) (outer : List Env) (s : Shared) (H : Hp) (E : XK)
    (hr : Room 3 (A.deeper (envOfC "_read_deed" (defScope (top 34)) s.heap.objs.size f cdv))) :
    PSs (cxOf (L2.CX P w) P w K mg base N__read_deed "_read_deed" (defScope (top 34)) f cdv A outer s H E) (defBody (top 34)) (tS ⟨K, mg⟩ E c__read_deed) := by
  have hp := passes_of (X := cxOf (L2.CX P w) P w K mg base N__read_deed "_read_deed" (defScope (top 34)) f cdv A outer s H E) rfl
  have hx : Passes (L2.CX P w) (cxOf (L2.CX P w) P w K mg base N__read_deed "_read_deed" (defScope (top 34)) f cdv A outer s H E) E := passes_call (takes_of rfl rfl rfl rfl) fun _ _ _ _ h => h
  have ht : Takes (cxOf (L2.CX P w) P w K mg base N__read_deed "_read_deed" (defScope (top 34)) f cdv A outer s H E) (fun cls d _ H => E cls d H) := takes_of rfl rfl rfl rfl
  exact (s_cons (s_if (t_not (t_tru (x_isi g.tab g.insty g.free_isinstance (a_cons (e_var 0) (a_cons (e_ty (x := "str") (by rfl) (g.free_str) (by decide +kernel)) a_nil))))) (s_one (s_ret e_non)) s_nil)
  (s_cons (s_asg (e_m PySem.F.plainAttrs_str PySem.F.slot_str_partition PySem.F.type_str_partition mt_partN ms_part (e_var 0) (a_cons e_str a_nil)) (g_of (S := [4, 5, 6]) (h_seq rfl (h_cons (h_name 4 (by decide) sc__read_deed.nd) (h_cons (h_name 5 (by decide) sc__read_deed.nd) (h_cons (h_name 6 (by decide) sc__read_deed.nd) h_nil))))) (gok_seq (gsok_cons (gsok_cons (gsok_cons gsok_nil)))))
  (s_cons (s_set 1 sc__read_deed.nd (e_m PySem.F.plainAttrs_str PySem.F.slot_str_split PySem.F.type_str_split mt_split ms_split (e_var 4) (a_cons e_str a_nil)))
  (s_cons (s_if (PW.pt (w_or (y_cmp (b_ne hr) (e_callB (x := "len") call_lenAll ca_len (by rfl) (g.free_len) PySem.boot_len (a_cons (e_var 1) a_nil)) e_int) (w_or (y_cmp (b_ne hr) (x_ix hr (e_var 1) e_int) e_str) (pw_or1 (t_not (t_tru (x_call (ps := ["value"]) (F_is_name) hr (by decide) (g.glo_is_name) hx (a_cons (x_ix hr (e_var 1) e_int) a_nil)))))))) (s_one (s_ret e_non)) s_nil)
  (s_cons (s_par3 7 8 9 rfl sc__read_deed.nd (a_cons (e_lst a_nil) (a_cons (e_lst a_nil) (a_cons (e_lst a_nil) a_nil))))
  (s_cons (s_set 2 sc__read_deed.nd (e_if (y_cmp (b_eq hr) (e_var 6) e_str) (e_lst a_nil) (e_m PySem.F.plainAttrs_str PySem.F.slot_str_split PySem.F.type_str_split mt_split ms_split (e_var 6) (a_cons e_str a_nil))))
  (s_cons (s_for hp rfl (i_any (e_var 2)) (g_of (S := [3]) (h_name 3 (by decide) sc__read_deed.nd)) (s_one (s_if (t_not (t_tru (x_call (ps := ["words", "needs", "sets", "tells"]) (F__take_part) hr (by decide) (g.glo__take_part) hx (a_cons (e_m PySem.F.plainAttrs_str PySem.F.slot_str_split PySem.F.type_str_split mt_split ms_split (e_var 3) (a_cons e_str a_nil)) (a_cons (e_var 7) (a_cons (e_var 8) (a_cons (e_var 9) a_nil))))))) (s_one (s_ret e_non)) s_nil)))
  (s_cons (s_if (t_not (PW.pt (w_and (t_tru (x_call (ps := ["value"]) (F__are_needs) hr (by decide) (g.glo__are_needs) hx (a_cons (e_var 7) a_nil))) (w_and (t_tru (x_call (ps := ["value"]) (F__are_sets) hr (by decide) (g.glo__are_sets) hx (a_cons (e_var 8) a_nil))) (pw_and1 (t_tru (x_call (ps := ["value"]) (F__are_tells) hr (by decide) (g.glo__are_tells) hx (a_cons (e_var 9) a_nil)))))))) (s_one (s_ret e_non)) s_nil)
  (s_one (s_ret (e_tup (a_cons (x_ix hr (e_var 1) e_int) (a_cons (e_var 7) (a_cons (e_var 8) (a_cons (e_var 9) a_nil)))))))))))))))
def N_Deed_read : List Str := ["cls", "text", "told_parts", "name", "needs", "sets", "tells"]
theorem sc_Deed_read : FnScope N_Deed_read ["cls", "text"] (defScope (cb (top 20) 1)) := ⟨rfl, rfl, rfl, by decide +kernel, rfl, by decide +kernel, by decide +kernel⟩
def c_Deed_read : CS :=
  (cSeq (cAsg (cCall 1 m__read_deed [] (caCons (cVar 1) caNil)) (gNam 2))
  (cSeq (cWhen (cTest (cOp (isNM false) (cVar 2) (cC .non))) (cRaise "InvalidText" "at" (cC (.int 0))) cNext)
  (cSeq (cAsg (cVar 2) (gSeqM 4 (gsCons (gNam 3) (gsCons (gNam 4) (gsCons (gNam 5) (gsCons (gNam 6) gsNil))))))
  (cRet (cMakeL 0 "Deed" 5 m_Deed___init__ (caCons (cVar 3) (caCons (cVar 4) (caCons (cVar 5) (caCons (cVar 6) caNil)))))))))
def m_Deed_read : List AV → CM AV := cFn 7 c_Deed_read
def a_Deed_read : List AV := []
theorem b_Deed_read {f : Addr} (g : Gf K mg) (X_InvalidText : XC P w K mg base "InvalidText" "at") (F_Deed___init__ : Has P w K mg base 4 ("Deed", some "__init__") ["self", "name", "needs", "sets", "tells"] m_Deed___init__) (F__read_deed : Has P w K mg base 4 ("_read_deed", none) ["text"] m__read_deed) (cdv : Value) (A : Around) (outer : List Env) (s : Shared) (H : Hp) (E : XK)
    (hr : Room 5 (A.deeper (envOfC "Deed.read" (defScope (cb (top 20) 1)) s.heap.objs.size f cdv))) :
    PSs (cxOf (L2.CX P w) P w K mg base N_Deed_read "Deed.read" (defScope (cb (top 20) 1)) f cdv A outer s H E) (defBody (cb (top 20) 1)) (tS ⟨K, mg⟩ E c_Deed_read) := by
  have hp := passes_of (X := cxOf (L2.CX P w) P w K mg base N_Deed_read "Deed.read" (defScope (cb (top 20) 1)) f cdv A outer s H E) rfl
  have hx : Passes (L2.CX P w) (cxOf (L2.CX P w) P w K mg base N_Deed_read "Deed.read" (defScope (cb (top 20) 1)) f cdv A outer s H E) E := passes_call (takes_of rfl rfl rfl rfl) fun _ _ _ _ h => h
  have ht : Takes (cxOf (L2.CX P w) P w K mg base N_Deed_read "Deed.read" (defScope (cb (top 20) 1)) f cdv A outer s H E) (fun cls d _ H => E cls d H) := takes_of rfl rfl rfl rfl
  exact (s_cons (s_set 2 sc_Deed_read.nd (x_call (ps := ["text"]) (F__read_deed) hr (by decide) (g.glo__read_deed) hx (a_cons (e_var 1) a_nil)))
  (s_cons (s_if (y_cmp (b_is) (e_var 2) e_non) (s_one (s_raise X_InvalidText hr (by decide) ht g.glo_InvalidText e_int)) s_nil)
  (s_cons (s_asg (e_var 2) (g_of (S := [3, 4, 5, 6]) (h_seq rfl (h_cons (h_name 3 (by decide) sc_Deed_read.nd) (h_cons (h_name 4 (by decide) sc_Deed_read.nd) (h_cons (h_name 5 (by decide) sc_Deed_read.nd) (h_cons (h_name 6 (by decide) sc_Deed_read.nd) h_nil)))))) (gok_seq (gsok_cons (gsok_cons (gsok_cons (gsok_cons gsok_nil))))))
  (s_one (s_ret (x_makeL (ps := ["self", "name", "needs", "sets", "tells"]) 0 F_Deed___init__ hr (by decide) g.mk_Deed g.glo_Deed hx (a_cons (e_var 3) (a_cons (e_var 4) (a_cons (e_var 5) (a_cons (e_var 6) a_nil))))))))))
def N__are_cells : List Str := ["value", "row", "_", "size"]
theorem sc__are_cells : FnScope N__are_cells ["value"] (defScope (top 30)) := ⟨rfl, rfl, rfl, by decide +kernel, rfl, by decide +kernel, by decide +kernel⟩
def c__are_cells : CS :=
  (cSeq (cWhen (cOr (cNot (cTru (cCall 1 m_is_sequence [] (caCons (cVar 0) caNil)))) (cOr (cTest (cOp (eqM false) (cB lenM (caCons (cVar 0) caNil)) (cC (.int 0)))) (cNot (cTru (cB allM (caCons (cLc (iAny (cVar 0)) (gNam 1) cYes (cCall 2 m_is_tuple [] (caCons (cVar 1) (caCons (cC (.int 2)) caNil))) [1]) caNil)))))) (cRet (cC (.bl false))) cNext)
  (cRet (cAndV (cCall 1 m__are_different_cells [] (caCons (cVar 0) caNil)) (cB allM (caCons (cLc (iAny (cVar 0)) (gSeqM 2 (gsCons (gNam 2) (gsCons (gNam 3) gsNil))) cYes (cAndV (cCall 1 m_is_integer [] (caCons (cVar 3) caNil)) (cChain (cmpM fun i j => decide (i ≤ j)) (cmpM fun i j => decide (i ≤ j)) (cC (.int 2)) (cVar 3) (cC (.int 4)))) [2, 3]) caNil)))))
def m__are_cells : List AV → CM AV := cFn 4 c__are_cells
def a__are_cells : List AV := []
theorem b__are_cells {f : Addr} (g : Gf K mg) (F__are_different_cells : Has P w K mg base 2 ("_are_different_cells", none) ["rows"] m__are_different_cells) (F_is_integer : Has P w K mg base 1 ("is_integer", none) ["value"] m_is_integer) (F_is_sequence : Has P w K mg base 1 ("is_sequence", none) ["value"] m_is_sequence) (F_is_tuple : Has P w K mg base 1 ("is_tuple", none) ["value", "size"] m_is_tuple) (cdv : Value) (A : Around) (outer : List Env) (s : Shared) (H : Hp) (E : XK)
    (hr : Room 2 (A.deeper (envOfC "_are_cells" (defScope (top 30)) s.heap.objs.size f cdv))) :
    PSs (cxOf (L2.CX P w) P w K mg base N__are_cells "_are_cells" (defScope (top 30)) f cdv A outer s H E) (defBody (top 30)) (tS ⟨K, mg⟩ E c__are_cells) := by
  have hp := passes_of (X := cxOf (L2.CX P w) P w K mg base N__are_cells "_are_cells" (defScope (top 30)) f cdv A outer s H E) rfl
  have hx : Passes (L2.CX P w) (cxOf (L2.CX P w) P w K mg base N__are_cells "_are_cells" (defScope (top 30)) f cdv A outer s H E) E := passes_call (takes_of rfl rfl rfl rfl) fun _ _ _ _ h => h
  have ht : Takes (cxOf (L2.CX P w) P w K mg base N__are_cells "_are_cells" (defScope (top 30)) f cdv A outer s H E) (fun cls d _ H => E cls d H) := takes_of rfl rfl rfl rfl
  exact (s_cons (s_if (PW.pt (w_or (t_not (t_tru (x_call (ps := ["value"]) (F_is_sequence) hr (by decide) (g.glo_is_sequence) hx (a_cons (e_var 0) a_nil)))) (w_or (y_cmp (b_eq hr) (e_callB (x := "len") call_lenAll ca_len (by rfl) (g.free_len) PySem.boot_len (a_cons (e_var 0) a_nil)) e_int) (pw_or1 (t_not (t_tru (e_callB (x := "all") (cr_all (by rfl)) ca_all (by rfl) (g.free_all) PyProof.Rows.boot_all (a_cons (by (refine e_lc (own := [("row", 1)]) rfl sc__are_cells.nd ?d ?e ?f ?g ?h); (case d => exact (i_any (e_var 0))); (case e => exact blkOk_by (N := N__are_cells) (sc := defScope (top 30)) (own := [("row", 1)]) (by decide +kernel)); (case f => intro _ _ _ _ _; exact (h_name 1 (by decide) sc__are_cells.nd)); (case g => intro _ _ _ _ _; exact ts_nil); (case h => intro _ _ _ _ _; exact (x_call (X := ((cxOf (L2.CX P w) P w K mg base N__are_cells "_are_cells" (defScope (top 30)) f cdv A outer s H E).blk _ _ _ _ _)) (ps := ["value", "size"]) (F_is_tuple) hr (by decide) (g.glo_is_tuple) passL (a_cons (e_var 1) (a_cons e_int a_nil))))) a_nil)))))))) (s_one (s_ret e_bl)) s_nil)
  (s_one (s_ret (e_and (x_call (ps := ["rows"]) (F__are_different_cells) hr (by decide) (g.glo__are_different_cells) hx (a_cons (e_var 0) a_nil)) (pe_one (e_callB (x := "all") (cr_all (by rfl)) ca_all (by rfl) (g.free_all) PyProof.Rows.boot_all (a_cons (by (refine e_lc (own := [("_", 2), ("size", 3)]) rfl sc__are_cells.nd ?d ?e ?f ?g ?h); (case d => exact (i_any (e_var 0))); (case e => exact blkOk_by (N := N__are_cells) (sc := defScope (top 30)) (own := [("_", 2), ("size", 3)]) (by decide +kernel)); (case f => intro _ _ _ _ _; exact (h_seq rfl (h_cons (h_name 2 (by decide) sc__are_cells.nd) (h_cons (h_name 3 (by decide) sc__are_cells.nd) h_nil)))); (case g => intro _ _ _ _ _; exact ts_nil); (case h => intro _ _ _ _ _; exact (e_and (x_call (X := ((cxOf (L2.CX P w) P w K mg base N__are_cells "_are_cells" (defScope (top 30)) f cdv A outer s H E).blk _ _ _ _ _)) (ps := ["value"]) (F_is_integer) hr (by decide) (g.glo_is_integer) passL (a_cons (e_var 3) a_nil)) (pe_one (x_chain (b_le) (b_le) e_int (e_var 3) e_int))))) a_nil)))))))
def N__fits : List Str := ["deed", "sizes", "numbers", "cell", "number", "_"]
theorem sc__fits : FnScope N__fits ["deed", "sizes"] (defScope (top 32)) := ⟨rfl, rfl, rfl, by decide +kernel, rfl, by decide +kernel, by decide +kernel⟩
def c__fits : CS :=
  (cSeq (cAsg (cLst (caStar (cFld cls_needs "needs" (cVar 0)) (caStar (cLc (iAny (cFld cls_sets "sets" (cVar 0))) (gSeqM 3 (gsCons (gNam 3) (gsCons (gNam 5) (gsCons (gNam 4) gsNil)))) cYes (cTup (caCons (cVar 3) (caCons (cVar 4) caNil))) [3, 5, 4]) (caStar (cLc (iAny (cFld cls_tells "tells" (cVar 0))) (gNam 3) cYes (cTup (caCons (cVar 3) (caCons (cC (.int 0)) caNil))) [3]) caNil)))) (gNam 2))
  (cRet (cB allM (caCons (cLc (iAny (cVar 2)) (gSeqM 2 (gsCons (gNam 3) (gsCons (gNam 4) gsNil))) cYes (cAndV (cOp (inM false) (cVar 3) (cVar 1)) (cOp (cmpM fun i j => decide (i < j)) (cVar 4) (cOp idxDM (cVar 1) (cVar 3)))) [3, 4]) caNil))))
def m__fits : List AV → CM AV := cFn 6 c__fits
def a__fits : List AV := []
theorem b__fits {f : Addr} (g : Gf K mg) (cdv : Value) (A : Around) (outer : List Env) (s : Shared) (H : Hp) (E : XK)
    (hr : Room 0 (A.deeper (envOfC "_fits" (defScope (top 32)) s.heap.objs.size f cdv))) :
    PSs (cxOf (L2.CX P w) P w K mg base N__fits "_fits" (defScope (top 32)) f cdv A outer s H E) (defBody (top 32)) (tS ⟨K, mg⟩ E c__fits) := by
  have hp := passes_of (X := cxOf (L2.CX P w) P w K mg base N__fits "_fits" (defScope (top 32)) f cdv A outer s H E) rfl
  have hx : Passes (L2.CX P w) (cxOf (L2.CX P w) P w K mg base N__fits "_fits" (defScope (top 32)) f cdv A outer s H E) E := passes_call (takes_of rfl rfl rfl rfl) fun _ _ _ _ h => h
  have ht : Takes (cxOf (L2.CX P w) P w K mg base N__fits "_fits" (defScope (top 32)) f cdv A outer s H E) (fun cls d _ H => E cls d H) := takes_of rfl rfl rfl rfl
  exact (s_cons (s_set 2 sc__fits.nd (e_lst (a_star (e_fld (g.fld_needs) (e_var 0)) (a_star (by (refine e_lc (own := [("cell", 3), ("_", 5), ("number", 4)]) rfl sc__fits.nd ?d ?e ?f ?g ?h); (case d => exact (i_any (e_fld (g.fld_sets) (e_var 0)))); (case e => exact blkOk_by (N := N__fits) (sc := defScope (top 32)) (own := [("cell", 3), ("_", 5), ("number", 4)]) (by decide +kernel)); (case f => intro _ _ _ _ _; exact (h_seq rfl (h_cons (h_name 3 (by decide) sc__fits.nd) (h_cons (h_name 5 (by decide) sc__fits.nd) (h_cons (h_name 4 (by decide) sc__fits.nd) h_nil))))); (case g => intro _ _ _ _ _; exact ts_nil); (case h => intro _ _ _ _ _; exact (e_tup (a_cons (e_var 3) (a_cons (e_var 4) a_nil))))) (a_star (by (refine e_lc (own := [("cell", 3)]) rfl sc__fits.nd ?d ?e ?f ?g ?h); (case d => exact (i_any (e_fld (g.fld_tells) (e_var 0)))); (case e => exact blkOk_by (N := N__fits) (sc := defScope (top 32)) (own := [("cell", 3)]) (by decide +kernel)); (case f => intro _ _ _ _ _; exact (h_name 3 (by decide) sc__fits.nd)); (case g => intro _ _ _ _ _; exact ts_nil); (case h => intro _ _ _ _ _; exact (e_tup (a_cons (e_var 3) (a_cons e_int a_nil))))) a_nil)))))
  (s_one (s_ret (e_callB (x := "all") (cr_all (by rfl)) ca_all (by rfl) (g.free_all) PyProof.Rows.boot_all (a_cons (by (refine e_lc (own := [("cell", 3), ("number", 4)]) rfl sc__fits.nd ?d ?e ?f ?g ?h); (case d => exact (i_any (e_var 2))); (case e => exact blkOk_by (N := N__fits) (sc := defScope (top 32)) (own := [("cell", 3), ("number", 4)]) (by decide +kernel)); (case f => intro _ _ _ _ _; exact (h_seq rfl (h_cons (h_name 3 (by decide) sc__fits.nd) (h_cons (h_name 4 (by decide) sc__fits.nd) h_nil)))); (case g => intro _ _ _ _ _; exact ts_nil); (case h => intro _ _ _ _ _; exact (e_and (x_cmp (b_in hr) (e_var 3) (e_var 1)) (pe_one (x_cmp (b_lt) (e_var 4) (x_ix hr (e_var 1) (e_var 3))))))) a_nil)))))
def N__are_deeds : List Str := ["value", "sizes", "deed"]
theorem sc__are_deeds : FnScope N__are_deeds ["value", "sizes"] (defScope (top 31)) := ⟨rfl, rfl, rfl, by decide +kernel, rfl, by decide +kernel, by decide +kernel⟩
def c__are_deeds : CS :=
  (cSeq (cWhen (cOr (cNot (cTru (cCall 1 m_is_sequence [] (caCons (cVar 0) caNil)))) (cNot (cTru (cB allM (caCons (cLc (iAny (cVar 0)) (gNam 2) cYes (cB (isiM tbI clsI) (caCons (cVar 2) (caCons (cC (.glo "Deed")) caNil))) [2]) caNil))))) (cRet (cC (.bl false))) cNext)
  (cRet (cAndV (cCall 1 m_are_different [] (caCons (cLc (iAny (cVar 0)) (gNam 2) cYes (cFld cls_name "name" (cVar 2)) [2]) caNil)) (cB allM (caCons (cLc (iAny (cVar 0)) (gNam 2) cYes (cCall 2 m__fits [] (caCons (cVar 2) (caCons (cVar 1) caNil))) [2]) caNil)))))
def m__are_deeds : List AV → CM AV := cFn 3 c__are_deeds
def a__are_deeds : List AV := []
theorem b__are_deeds {f : Addr} (g : Gf K mg) (F__fits : Has P w K mg base 1 ("_fits", none) ["deed", "sizes"] m__fits) (F_are_different : Has P w K mg base 1 ("are_different", none) ["values"] m_are_different) (F_is_sequence : Has P w K mg base 1 ("is_sequence", none) ["value"] m_is_sequence) (cdv : Value) (A : Around) (outer : List Env) (s : Shared) (H : Hp) (E : XK)
    (hr : Room 1 (A.deeper (envOfC "_are_deeds" (defScope (top 31)) s.heap.objs.size f cdv))) :
    PSs (cxOf (L2.CX P w) P w K mg base N__are_deeds "_are_deeds" (defScope (top 31)) f cdv A outer s H E) (defBody (top 31)) (tS ⟨K, mg⟩ E c__are_deeds) := by
  have hp := passes_of (X := cxOf (L2.CX P w) P w K mg base N__are_deeds "_are_deeds" (defScope (top 31)) f cdv A outer s H E) rfl
  have hx : Passes (L2.CX P w) (cxOf (L2.CX P w) P w K mg base N__are_deeds "_are_deeds" (defScope (top 31)) f cdv A outer s H E) E := passes_call (takes_of rfl rfl rfl rfl) fun _ _ _ _ h => h
  have ht : Takes (cxOf (L2.CX P w) P w K mg base N__are_deeds "_are_deeds" (defScope (top 31)) f cdv A outer s H E) (fun cls d _ H => E cls d H) := takes_of rfl rfl rfl rfl
  exact (s_cons (s_if (PW.pt (w_or (t_not (t_tru (x_call (ps := ["value"]) (F_is_sequence) hr (by decide) (g.glo_is_sequence) hx (a_cons (e_var 0) a_nil)))) (pw_or1 (t_not (t_tru (e_callB (x := "all") (cr_all (by rfl)) ca_all (by rfl) (g.free_all) PyProof.Rows.boot_all (a_cons (by (refine e_lc (own := [("deed", 2)]) rfl sc__are_deeds.nd ?d ?e ?f ?g ?h); (case d => exact (i_any (e_var 0))); (case e => exact blkOk_by (N := N__are_deeds) (sc := defScope (top 31)) (own := [("deed", 2)]) (by decide +kernel)); (case f => intro _ _ _ _ _; exact (h_name 2 (by decide) sc__are_deeds.nd)); (case g => intro _ _ _ _ _; exact ts_nil); (case h => intro _ _ _ _ _; exact (x_isi g.tab g.insty g.free_isinstance (a_cons (e_var 2) (a_cons (e_glo (x := "Deed") (by rfl) g.glo_Deed) a_nil))))) a_nil))))))) (s_one (s_ret e_bl)) s_nil)
  (s_one (s_ret (e_and (x_call (ps := ["values"]) (F_are_different) hr (by decide) (g.glo_are_different) hx (a_cons (by (refine e_lc (own := [("deed", 2)]) rfl sc__are_deeds.nd ?d ?e ?f ?g ?h); (case d => exact (i_any (e_var 0))); (case e => exact blkOk_by (N := N__are_deeds) (sc := defScope (top 31)) (own := [("deed", 2)]) (by decide +kernel)); (case f => intro _ _ _ _ _; exact (h_name 2 (by decide) sc__are_deeds.nd)); (case g => intro _ _ _ _ _; exact ts_nil); (case h => intro _ _ _ _ _; exact (e_fld (g.fld_name) (e_var 2)))) a_nil)) (pe_one (e_callB (x := "all") (cr_all (by rfl)) ca_all (by rfl) (g.free_all) PyProof.Rows.boot_all (a_cons (by (refine e_lc (own := [("deed", 2)]) rfl sc__are_deeds.nd ?d ?e ?f ?g ?h); (case d => exact (i_any (e_var 0))); (case e => exact blkOk_by (N := N__are_deeds) (sc := defScope (top 31)) (own := [("deed", 2)]) (by decide +kernel)); (case f => intro _ _ _ _ _; exact (h_name 2 (by decide) sc__are_deeds.nd)); (case g => intro _ _ _ _ _; exact ts_nil); (case h => intro _ _ _ _ _; exact (x_call (X := ((cxOf (L2.CX P w) P w K mg base N__are_deeds "_are_deeds" (defScope (top 31)) f cdv A outer s H E).blk _ _ _ _ _)) (ps := ["deed", "sizes"]) (F__fits) hr (by decide) (g.glo__fits) passL (a_cons (e_var 2) (a_cons (e_var 1) a_nil))))) a_nil)))))))
def N_World___init__ : List Str := ["self", "cells", "deeds"]
theorem sc_World___init__ : FnScope N_World___init__ ["self", "cells", "deeds"] (defScope (cb (top 21) 0)) := ⟨rfl, rfl, rfl, by decide +kernel, rfl, by decide +kernel, by decide +kernel⟩
def c_World___init__ : CS :=
  (cSeq (cWhen (cNot (cTru (cCall 1 m__are_cells [] (caCons (cVar 1) caNil)))) (cRaise "InvalidWorld" "word" (cC (.str "cells"))) cNext)
  (cSeq (cWhen (cNot (cTru (cCall 2 m__are_deeds [] (caCons (cVar 2) (caCons (cB dictAllM (caCons (cVar 1) caNil)) caNil))))) (cRaise "InvalidWorld" "word" (cC (.str "deeds"))) cNext)
  (cSeq (cSetF cls_cells "cells" (cB tupleM (caCons (cVar 1) caNil)) (cVar 0))
  (cSetF cls_deeds "deeds" (cB tupleM (caCons (cVar 2) caNil)) (cVar 0)))))
def m_World___init__ : List AV → CM AV := cFn 3 c_World___init__
def a_World___init__ : List AV := []
theorem b_World___init__ {f : Addr} (g : Gf K mg) (X_InvalidWorld : XC P w K mg base "InvalidWorld" "word") (F__are_cells : Has P w K mg base 3 ("_are_cells", none) ["value"] m__are_cells) (F__are_deeds : Has P w K mg base 2 ("_are_deeds", none) ["value", "sizes"] m__are_deeds) (cdv : Value) (A : Around) (outer : List Env) (s : Shared) (H : Hp) (E : XK)
    (hr : Room 3 (A.deeper (envOfC "World.__init__" (defScope (cb (top 21) 0)) s.heap.objs.size f cdv))) :
    PSs (cxOf (L2.CX P w) P w K mg base N_World___init__ "World.__init__" (defScope (cb (top 21) 0)) f cdv A outer s H E) (defBody (cb (top 21) 0)) (tS ⟨K, mg⟩ E c_World___init__) := by
  have hp := passes_of (X := cxOf (L2.CX P w) P w K mg base N_World___init__ "World.__init__" (defScope (cb (top 21) 0)) f cdv A outer s H E) rfl
  have hx : Passes (L2.CX P w) (cxOf (L2.CX P w) P w K mg base N_World___init__ "World.__init__" (defScope (cb (top 21) 0)) f cdv A outer s H E) E := passes_call (takes_of rfl rfl rfl rfl) fun _ _ _ _ h => h
  have ht : Takes (cxOf (L2.CX P w) P w K mg base N_World___init__ "World.__init__" (defScope (cb (top 21) 0)) f cdv A outer s H E) (fun cls d _ H => E cls d H) := takes_of rfl rfl rfl rfl
  exact (s_cons (s_if (t_not (t_tru (x_call (ps := ["value"]) (F__are_cells) hr (by decide) (g.glo__are_cells) hx (a_cons (e_var 1) a_nil)))) (s_one (s_raise X_InvalidWorld hr (by decide) ht g.glo_InvalidWorld e_str)) s_nil)
  (s_cons (s_if (t_not (t_tru (x_call (ps := ["value", "sizes"]) (F__are_deeds) hr (by decide) (g.glo__are_deeds) hx (a_cons (e_var 2) (a_cons (e_callTy (x := "dict") (cr_dictAll (by rfl)) ca_dictAll (by rfl) (g.free_dict) PyProof.Rows.boot_dict (a_cons (e_var 1) a_nil)) a_nil))))) (s_one (s_raise X_InvalidWorld hr (by decide) ht g.glo_InvalidWorld e_str)) s_nil)
  (s_cons (s_fld (g.fld_cells) (e_var 0) (e_callTy (x := "tuple") cr_tupN ca_tuple (by rfl) (g.free_tuple) PyProof.Rows.boot_tuple (a_cons (e_var 1) a_nil)))
  (s_one (s_fld (g.fld_deeds) (e_var 0) (e_callTy (x := "tuple") cr_tupN ca_tuple (by rfl) (g.free_tuple) PyProof.Rows.boot_tuple (a_cons (e_var 2) a_nil)))))))
def N_World_deed : List Str := ["self", "name", "deed"]
theorem sc_World_deed : FnScope N_World_deed ["self", "name"] (defScope (cb (top 21) 1)) := ⟨rfl, rfl, rfl, by decide +kernel, rfl, by decide +kernel, by decide +kernel⟩
def c_World_deed : CS :=
  (cSeq (cFor (iAny (cFld cls_deeds "deeds" (cVar 0))) (gNam 2) (cWhen (cTest (cOp (eqM false) (cFld cls_name "name" (cVar 2)) (cVar 1))) (cRet (cVar 2)) cNext))
  cNever)
def m_World_deed : List AV → CM AV := cFn 3 c_World_deed
def a_World_deed : List AV := []
theorem b_World_deed {f : Addr} (g : Gf K mg) (cdv : Value) (A : Around) (outer : List Env) (s : Shared) (H : Hp) (E : XK)
    (hr : Room 0 (A.deeper (envOfC "World.deed" (defScope (cb (top 21) 1)) s.heap.objs.size f cdv))) :
    PSs (cxOf (L2.CX P w) P w K mg base N_World_deed "World.deed" (defScope (cb (top 21) 1)) f cdv A outer s H E) (defBody (cb (top 21) 1)) (tS ⟨K, mg⟩ E c_World_deed) := by
  have hp := passes_of (X := cxOf (L2.CX P w) P w K mg base N_World_deed "World.deed" (defScope (cb (top 21) 1)) f cdv A outer s H E) rfl
  have hx : Passes (L2.CX P w) (cxOf (L2.CX P w) P w K mg base N_World_deed "World.deed" (defScope (cb (top 21) 1)) f cdv A outer s H E) E := passes_call (takes_of rfl rfl rfl rfl) fun _ _ _ _ h => h
  have ht : Takes (cxOf (L2.CX P w) P w K mg base N_World_deed "World.deed" (defScope (cb (top 21) 1)) f cdv A outer s H E) (fun cls d _ H => E cls d H) := takes_of rfl rfl rfl rfl
  exact (s_cons (s_for hp rfl (i_any (e_fld (g.fld_deeds) (e_var 0))) (g_of (S := [2]) (h_name 2 (by decide) sc_World_deed.nd)) (s_one (s_if (y_cmp (b_eq hr) (e_fld (g.fld_name) (e_var 2)) (e_var 1)) (s_one (s_ret (e_var 2))) s_nil)))
  (s_one s_never))
def N_World_scenes : List Str := ["self", "rows", "_", "size", "row", "value"]
theorem sc_World_scenes : FnScope N_World_scenes ["self"] (defScope (cb (top 21) 2)) := ⟨rfl, rfl, rfl, by decide +kernel, rfl, by decide +kernel, by decide +kernel⟩
def c_World_scenes : CS :=
  (cSeq (cAsg (cLst (caCons (cTup caNil) caNil)) (gNam 1))
  (cSeq (cFor (iAny (cFld cls_cells "cells" (cVar 0))) (gSeqM 2 (gsCons (gNam 2) (gsCons (gNam 3) gsNil))) (cAsg (cLc2 (iAny (cVar 1)) (gNam 4) cYes (iRng1C (caCons (cVar 3) caNil)) (gNam 5) cYes (cTup (caStar (cVar 4) (caCons (cVar 5) caNil))) [4, 5] [5]) (gNam 1)))
  (cRet (cB tupleM (caCons (cVar 1) caNil)))))
def m_World_scenes : List AV → CM AV := cFn 6 c_World_scenes
def a_World_scenes : List AV := []
theorem b_World_scenes {f : Addr} (g : Gf K mg) (cdv : Value) (A : Around) (outer : List Env) (s : Shared) (H : Hp) (E : XK)
    (hr : Room 0 (A.deeper (envOfC "World.scenes" (defScope (cb (top 21) 2)) s.heap.objs.size f cdv))) :
    PSs (cxOf (L2.CX P w) P w K mg base N_World_scenes "World.scenes" (defScope (cb (top 21) 2)) f cdv A outer s H E) (defBody (cb (top 21) 2)) (tS ⟨K, mg⟩ E c_World_scenes) := by
  have hp := passes_of (X := cxOf (L2.CX P w) P w K mg base N_World_scenes "World.scenes" (defScope (cb (top 21) 2)) f cdv A outer s H E) rfl
  have hx : Passes (L2.CX P w) (cxOf (L2.CX P w) P w K mg base N_World_scenes "World.scenes" (defScope (cb (top 21) 2)) f cdv A outer s H E) E := passes_call (takes_of rfl rfl rfl rfl) fun _ _ _ _ h => h
  have ht : Takes (cxOf (L2.CX P w) P w K mg base N_World_scenes "World.scenes" (defScope (cb (top 21) 2)) f cdv A outer s H E) (fun cls d _ H => E cls d H) := takes_of rfl rfl rfl rfl
  exact (s_cons (s_set 1 sc_World_scenes.nd (e_lst (a_cons (e_tup a_nil) a_nil)))
  (s_cons (s_for hp rfl (i_any (e_fld (g.fld_cells) (e_var 0))) (g_of (S := [2, 3]) (h_seq rfl (h_cons (h_name 2 (by decide) sc_World_scenes.nd) (h_cons (h_name 3 (by decide) sc_World_scenes.nd) h_nil)))) (s_one (by (refine s_setLc2 (own := [("row", 4), ("value", 5)]) (vs1 := [5]) 1 rfl sc_World_scenes.nd ?a ?b ?c ?d ?e ?v ?f ?g ?i1 ?g1 ?t1 ?h); (case a => rfl); (case b => rfl); (case c => rfl); (case d => exact (i_any (e_var 1))); (case e => exact blkOk_by (N := N_World_scenes) (sc := defScope (cb (top 21) 2)) (own := [("row", 4), ("value", 5)]) (by decide +kernel)); (case v => decide); (case f => intro _ _ _ _ _; exact (h_name 4 (by decide) sc_World_scenes.nd)); (case g => intro _ _ _ _ _; exact ts_nil); (case i1 => intro _ _ _ _ _; exact (i_rng1 (by rfl) (g.free_range) (a_cons (e_var 3) a_nil))); (case g1 => intro _ _ _ _ _; exact (h_name 5 (by decide) sc_World_scenes.nd)); (case t1 => intro _ _ _ _ _; exact ts_nil); (case h => intro _ _ _ _ _; exact (e_tup (a_star (e_var 4) (a_cons (e_var 5) a_nil)))))))
  (s_one (s_ret (e_callTy (x := "tuple") cr_tupN ca_tuple (by rfl) (g.free_tuple) PyProof.Rows.boot_tuple (a_cons (e_var 1) a_nil))))))
def N_is_scene : List Str := ["world", "value", "there", "cell"]
theorem sc_is_scene : FnScope N_is_scene ["world", "value"] (defScope (top 24)) := ⟨rfl, rfl, rfl, by decide +kernel, rfl, by decide +kernel, by decide +kernel⟩
def c_is_scene : CS :=
  (cSeq (cWhen (cNot (cTru (cCall 2 m_is_tuple [] (caCons (cVar 1) (caCons (cB lenM (caCons (cFld cls_cells "cells" (cVar 0)) caNil)) caNil))))) (cRet (cC (.bl false))) cNext)
  (cRet (cB allM (caCons (cLc (iZipC (caCons (cVar 1) (caCons (cFld cls_cells "cells" (cVar 0)) caNil))) (gSeqM 2 (gsCons (gNam 2) (gsCons (gNam 3) gsNil))) cYes (cAndV (cCall 1 m_is_number [] (caCons (cVar 2) caNil)) (cOp (cmpM fun i j => decide (i < j)) (cVar 2) (cOp idxDM (cVar 3) (cC (.int 1))))) [2, 3]) caNil))))
def m_is_scene : List AV → CM AV := cFn 4 c_is_scene
def a_is_scene : List AV := []
theorem b_is_scene {f : Addr} (g : Gf K mg) (F_is_number : Has P w K mg base 2 ("is_number", none) ["value"] m_is_number) (F_is_tuple : Has P w K mg base 1 ("is_tuple", none) ["value", "size"] m_is_tuple) (cdv : Value) (A : Around) (outer : List Env) (s : Shared) (H : Hp) (E : XK)
    (hr : Room 2 (A.deeper (envOfC "is_scene" (defScope (top 24)) s.heap.objs.size f cdv))) :
    PSs (cxOf (L2.CX P w) P w K mg base N_is_scene "is_scene" (defScope (top 24)) f cdv A outer s H E) (defBody (top 24)) (tS ⟨K, mg⟩ E c_is_scene) := by
  have hp := passes_of (X := cxOf (L2.CX P w) P w K mg base N_is_scene "is_scene" (defScope (top 24)) f cdv A outer s H E) rfl
  have hx : Passes (L2.CX P w) (cxOf (L2.CX P w) P w K mg base N_is_scene "is_scene" (defScope (top 24)) f cdv A outer s H E) E := passes_call (takes_of rfl rfl rfl rfl) fun _ _ _ _ h => h
  have ht : Takes (cxOf (L2.CX P w) P w K mg base N_is_scene "is_scene" (defScope (top 24)) f cdv A outer s H E) (fun cls d _ H => E cls d H) := takes_of rfl rfl rfl rfl
  exact (s_cons (s_if (t_not (t_tru (x_call (ps := ["value", "size"]) (F_is_tuple) hr (by decide) (g.glo_is_tuple) hx (a_cons (e_var 1) (a_cons (e_callB (x := "len") call_lenAll ca_len (by rfl) (g.free_len) PySem.boot_len (a_cons (e_fld (g.fld_cells) (e_var 0)) a_nil)) a_nil))))) (s_one (s_ret e_bl)) s_nil)
  (s_one (s_ret (e_callB (x := "all") (cr_all (by rfl)) ca_all (by rfl) (g.free_all) PyProof.Rows.boot_all (a_cons (by (refine e_lc (own := [("there", 2), ("cell", 3)]) rfl sc_is_scene.nd ?d ?e ?f ?g ?h); (case d => exact (i_zip (by rfl) (g.free_zip) (a_cons (e_var 1) (a_cons (e_fld (g.fld_cells) (e_var 0)) a_nil)))); (case e => exact blkOk_by (N := N_is_scene) (sc := defScope (top 24)) (own := [("there", 2), ("cell", 3)]) (by decide +kernel)); (case f => intro _ _ _ _ _; exact (h_seq rfl (h_cons (h_name 2 (by decide) sc_is_scene.nd) (h_cons (h_name 3 (by decide) sc_is_scene.nd) h_nil)))); (case g => intro _ _ _ _ _; exact ts_nil); (case h => intro _ _ _ _ _; exact (e_and (x_call (X := ((cxOf (L2.CX P w) P w K mg base N_is_scene "is_scene" (defScope (top 24)) f cdv A outer s H E).blk _ _ _ _ _)) (ps := ["value"]) (F_is_number) hr (by decide) (g.glo_is_number) passL (a_cons (e_var 2) a_nil)) (pe_one (x_cmp (b_lt) (e_var 2) (x_ix hr (e_var 3) e_int)))))) a_nil)))))
def N_done : List Str := ["world", "scene", "name", "old", "deed", "cells", "values", "answer", "sizes", "given", "cell", "how", "number", "_", "value"]
theorem sc_done : FnScope N_done ["world", "scene", "name", "old"] (defScope (top 22)) := ⟨rfl, rfl, rfl, by decide +kernel, rfl, by decide +kernel, by decide +kernel⟩
def c_done : CS :=
  (cSeq (cWhen (cNot (cTru (cCall 2 m_is_scene [] (caCons (cVar 0) (caCons (cVar 1) caNil))))) cNever cNext)
  (cSeq (cAsg (cMeth "World" "deed" 2 m_World_deed [] (cVar 0) (caCons (cVar 2) caNil)) (gNam 4))
  (cSeq (cAsg (cLc (iAny (cFld cls_cells "cells" (cVar 0))) (gSeqM 2 (gsCons (gNam 10) (gsCons (gNam 13) gsNil))) cYes (cVar 10) [10, 13]) (gNam 5))
  (cSeq (cAsg (cDictZip (caCons (cVar 5) (caCons (cVar 1) caNil))) (gNam 6))
  (cSeq (cWhen (cTru (cB anyM (caCons (cLc (iAny (cFld cls_needs "needs" (cVar 4))) (gSeqM 2 (gsCons (gNam 10) (gsCons (gNam 14) gsNil))) cYes (cOp (eqM true) (cOp idxDM (cVar 6) (cVar 10)) (cVar 14)) [10, 14]) caNil))) (cRet (cTup (caCons (cC (.str "no")) (caCons (cVar 1) caNil)))) cNext)
  (cSeq (cAsg (cM "str" (joinM) (cC (.str " ")) (caCons (cOp addM (cLst (caCons (cC (.str "ok")) caNil)) (cLc (iAny (cFld cls_tells "tells" (cVar 4))) (gNam 10) cYes (cB strAllM (caCons (cOp idxDM (cVar 6) (cVar 10)) caNil)) [10])) caNil)) (gNam 7))
  (cSeq (cAsg (cB dictAllM (caCons (cFld cls_cells "cells" (cVar 0)) caNil)) (gNam 8))
  (cSeq (cAsg (cB dictAllM (caCons (cVar 3) caNil)) (gNam 9))
  (cSeq (cFor (iAny (cFld cls_sets "sets" (cVar 4))) (gSeqM 3 (gsCons (gNam 10) (gsCons (gNam 11) (gsCons (gNam 12) gsNil)))) (cWhen (cTest (cOp (eqM false) (cVar 11) (cC (.str "to")))) (cAsg (cVar 12) (gIx (cVar 6) (cVar 10))) (cWhen (cTest (cOp (eqM false) (cVar 11) (cC (.str "by")))) (cAsg (cOp modM (cOp addM (cOp idxDM (cVar 6) (cVar 10)) (cVar 12)) (cOp idxDM (cVar 8) (cVar 10))) (gIx (cVar 6) (cVar 10))) (cAsg (cDGet2 (cVar 9) (cVar 10) (cOp idxDM (cVar 6) (cVar 10))) (gIx (cVar 6) (cVar 10))))))
  (cRet (cTup (caCons (cVar 7) (caCons (cB tupleM (caCons (cLc (iAny (cVar 5)) (gNam 10) cYes (cOp idxDM (cVar 6) (cVar 10)) [10]) caNil)) caNil)))))))))))))
def m_done : List AV → CM AV := cFn 15 c_done
def a_done : List AV := [.tup []]
theorem b_done {f : Addr} (g : Gf K mg) (F_World_deed : Has P w K mg base 1 ("World", some "deed") ["self", "name"] m_World_deed) (F_is_scene : Has P w K mg base 3 ("is_scene", none) ["world", "value"] m_is_scene) (cdv : Value) (A : Around) (outer : List Env) (s : Shared) (H : Hp) (E : XK)
    (hr : Room 3 (A.deeper (envOfC "done" (defScope (top 22)) s.heap.objs.size f cdv))) :
    PSs (cxOf (L2.CX P w) P w K mg base N_done "done" (defScope (top 22)) f cdv A outer s H E) (defBody (top 22)) (tS ⟨K, mg⟩ E c_done) := by
  have hp := passes_of (X := cxOf (L2.CX P w) P w K mg base N_done "done" (defScope (top 22)) f cdv A outer s H E) rfl
  have hx : Passes (L2.CX P w) (cxOf (L2.CX P w) P w K mg base N_done "done" (defScope (top 22)) f cdv A outer s H E) E := passes_call (takes_of rfl rfl rfl rfl) fun _ _ _ _ h => h
  have ht : Takes (cxOf (L2.CX P w) P w K mg base N_done "done" (defScope (top 22)) f cdv A outer s H E) (fun cls d _ H => E cls d H) := takes_of rfl rfl rfl rfl
  exact (s_cons (s_if (t_not (t_tru (x_call (ps := ["world", "value"]) (F_is_scene) hr (by decide) (g.glo_is_scene) hx (a_cons (e_var 0) (a_cons (e_var 1) a_nil))))) (s_one s_never) s_nil)
  (s_cons (s_set 4 sc_done.nd (x_meth (ps := ["self", "name"]) F_World_deed hr (by decide) g.cls_World g.meth_World_deed g.glo_World hx (e_var 0) (a_cons (e_var 2) a_nil)))
  (s_cons (by (refine s_setLc (own := [("cell", 10), ("_", 13)]) 5 rfl sc_done.nd ?a ?b ?c ?d ?e ?f ?g ?h); (case a => rfl); (case b => rfl); (case c => rfl); (case d => exact (i_any (e_fld (g.fld_cells) (e_var 0)))); (case e => exact blkOk_by (N := N_done) (sc := defScope (top 22)) (own := [("cell", 10), ("_", 13)]) (by decide +kernel)); (case f => intro _ _ _ _ _; exact (h_seq rfl (h_cons (h_name 10 (by decide) sc_done.nd) (h_cons (h_name 13 (by decide) sc_done.nd) h_nil)))); (case g => intro _ _ _ _ _; exact ts_nil); (case h => intro _ _ _ _ _; exact (e_var 10)))
  (s_cons (s_set 6 sc_done.nd (x_dictZip rfl g.free_dict g.free_zip (a_cons (e_var 5) (a_cons (e_var 1) a_nil))))
  (s_cons (s_if (t_tru (e_callB (x := "any") (cr_any (by rfl)) ca_any (by rfl) (g.free_any) PyProof.Rows.boot_any (a_cons (by (refine e_lc (own := [("cell", 10), ("value", 14)]) rfl sc_done.nd ?d ?e ?f ?g ?h); (case d => exact (i_any (e_fld (g.fld_needs) (e_var 4)))); (case e => exact blkOk_by (N := N_done) (sc := defScope (top 22)) (own := [("cell", 10), ("value", 14)]) (by decide +kernel)); (case f => intro _ _ _ _ _; exact (h_seq rfl (h_cons (h_name 10 (by decide) sc_done.nd) (h_cons (h_name 14 (by decide) sc_done.nd) h_nil)))); (case g => intro _ _ _ _ _; exact ts_nil); (case h => intro _ _ _ _ _; exact (x_cmp (b_ne hr) (x_ix hr (e_var 6) (e_var 10)) (e_var 14)))) a_nil))) (s_one (s_ret (e_tup (a_cons e_str (a_cons (e_var 1) a_nil))))) s_nil)
  (s_cons (s_set 7 sc_done.nd (e_m PySem.F.plainAttrs_str PySem.F.slot_str_join PySem.F.type_str_join mt_join ms_join e_str (a_cons (x_add (e_lst (a_cons e_str a_nil)) (by (refine e_lc (own := [("cell", 10)]) rfl sc_done.nd ?d ?e ?f ?g ?h); (case d => exact (i_any (e_fld (g.fld_tells) (e_var 4)))); (case e => exact blkOk_by (N := N_done) (sc := defScope (top 22)) (own := [("cell", 10)]) (by decide +kernel)); (case f => intro _ _ _ _ _; exact (h_name 10 (by decide) sc_done.nd)); (case g => intro _ _ _ _ _; exact ts_nil); (case h => intro _ _ _ _ _; exact (e_callTy (x := "str") cr_strAll ca_strAll (by rfl) (g.free_str) PyProof.Rows.boot_str (a_cons (x_ix hr (e_var 6) (e_var 10)) a_nil))))) a_nil)))
  (s_cons (s_set 8 sc_done.nd (e_callTy (x := "dict") (cr_dictAll (by rfl)) ca_dictAll (by rfl) (g.free_dict) PyProof.Rows.boot_dict (a_cons (e_fld (g.fld_cells) (e_var 0)) a_nil)))
  (s_cons (s_set 9 sc_done.nd (e_callTy (x := "dict") (cr_dictAll (by rfl)) ca_dictAll (by rfl) (g.free_dict) PyProof.Rows.boot_dict (a_cons (e_var 3) a_nil)))
  (s_cons (s_for hp rfl (i_any (e_fld (g.fld_sets) (e_var 4))) (g_of (S := [10, 11, 12]) (h_seq rfl (h_cons (h_name 10 (by decide) sc_done.nd) (h_cons (h_name 11 (by decide) sc_done.nd) (h_cons (h_name 12 (by decide) sc_done.nd) h_nil))))) (s_one (s_if (y_cmp (b_eq hr) (e_var 11) e_str) (s_one (s_asg (e_var 12) (g_of (S := [6, 10]) (z_ix hr (e_var 6) (e_var 10))) gok_ix)) (s_one (s_if (y_cmp (b_eq hr) (e_var 11) e_str) (s_one (s_asg (x_mod (x_add (x_ix hr (e_var 6) (e_var 10)) (e_var 12)) (x_ix hr (e_var 8) (e_var 10))) (g_of (S := [6, 10]) (z_ix hr (e_var 6) (e_var 10))) gok_ix)) (s_one (s_asg (x_get2 hr (e_var 9) (e_var 10) (x_ix hr (e_var 6) (e_var 10))) (g_of (S := [6, 10]) (z_ix hr (e_var 6) (e_var 10))) gok_ix)))))))
  (s_one (s_ret (e_tup (a_cons (e_var 7) (a_cons (e_callTy (x := "tuple") cr_tupN ca_tuple (by rfl) (g.free_tuple) PyProof.Rows.boot_tuple (a_cons (by (refine e_lc (own := [("cell", 10)]) rfl sc_done.nd ?d ?e ?f ?g ?h); (case d => exact (i_any (e_var 5))); (case e => exact blkOk_by (N := N_done) (sc := defScope (top 22)) (own := [("cell", 10)]) (by decide +kernel)); (case f => intro _ _ _ _ _; exact (h_name 10 (by decide) sc_done.nd)); (case g => intro _ _ _ _ _; exact ts_nil); (case h => intro _ _ _ _ _; exact (x_ix hr (e_var 6) (e_var 10)))) a_nil)) a_nil))))))))))))))
def N_told : List Str := ["world", "name", "answer", "words", "cell", "word"]
theorem sc_told : FnScope N_told ["world", "name", "answer"] (defScope (top 23)) := ⟨rfl, rfl, rfl, by decide +kernel, rfl, by decide +kernel, by decide +kernel⟩
def c_told : CS :=
  (cSeq (cAsg (cM "str" (splitM) (cVar 2) (caCons (cC (.str " ")) caNil)) (gNam 3))
  (cSeq (cWhen (cTest (cOp (eqM true) (cOp idxDM (cVar 3) (cC (.int 0))) (cC (.str "ok")))) (cRet (cTup caNil)) cNext)
  (cRet (cB tupleM (caCons (cLc (iZipC (caCons (cFld cls_tells "tells" (cMeth "World" "deed" 2 m_World_deed [] (cVar 0) (caCons (cVar 1) caNil))) (caCons (cSl (cVar 3) (cPart (cC (.int 1))) cNoPart) caNil))) (gSeqM 2 (gsCons (gNam 4) (gsCons (gNam 5) gsNil))) cYes (cTup (caCons (cVar 4) (caCons (cB intM (caCons (cVar 5) caNil)) caNil))) [4, 5]) caNil)))))
def m_told : List AV → CM AV := cFn 6 c_told
def a_told : List AV := []
theorem b_told {f : Addr} (g : Gf K mg) (F_World_deed : Has P w K mg base 1 ("World", some "deed") ["self", "name"] m_World_deed) (cdv : Value) (A : Around) (outer : List Env) (s : Shared) (H : Hp) (E : XK)
    (hr : Room 1 (A.deeper (envOfC "told" (defScope (top 23)) s.heap.objs.size f cdv))) :
    PSs (cxOf (L2.CX P w) P w K mg base N_told "told" (defScope (top 23)) f cdv A outer s H E) (defBody (top 23)) (tS ⟨K, mg⟩ E c_told) := by
  have hp := passes_of (X := cxOf (L2.CX P w) P w K mg base N_told "told" (defScope (top 23)) f cdv A outer s H E) rfl
  have hx : Passes (L2.CX P w) (cxOf (L2.CX P w) P w K mg base N_told "told" (defScope (top 23)) f cdv A outer s H E) E := passes_call (takes_of rfl rfl rfl rfl) fun _ _ _ _ h => h
  have ht : Takes (cxOf (L2.CX P w) P w K mg base N_told "told" (defScope (top 23)) f cdv A outer s H E) (fun cls d _ H => E cls d H) := takes_of rfl rfl rfl rfl
  exact (s_cons (s_set 3 sc_told.nd (e_m PySem.F.plainAttrs_str PySem.F.slot_str_split PySem.F.type_str_split mt_split ms_split (e_var 2) (a_cons e_str a_nil)))
  (s_cons (s_if (y_cmp (b_ne hr) (x_ix hr (e_var 3) e_int) e_str) (s_one (s_ret (e_tup a_nil))) s_nil)
  (s_one (s_ret (e_callTy (x := "tuple") cr_tupN ca_tuple (by rfl) (g.free_tuple) PyProof.Rows.boot_tuple (a_cons (by (refine e_lc (own := [("cell", 4), ("word", 5)]) rfl sc_told.nd ?d ?e ?f ?g ?h); (case d => exact (i_zip (by rfl) (g.free_zip) (a_cons (e_fld (g.fld_tells) (x_meth (ps := ["self", "name"]) F_World_deed hr (by decide) g.cls_World g.meth_World_deed g.glo_World hx (e_var 0) (a_cons (e_var 1) a_nil))) (a_cons (e_sl (e_var 3) (o_some e_int) o_none) a_nil)))); (case e => exact blkOk_by (N := N_told) (sc := defScope (top 23)) (own := [("cell", 4), ("word", 5)]) (by decide +kernel)); (case f => intro _ _ _ _ _; exact (h_seq rfl (h_cons (h_name 4 (by decide) sc_told.nd) (h_cons (h_name 5 (by decide) sc_told.nd) h_nil)))); (case g => intro _ _ _ _ _; exact ts_nil); (case h => intro _ _ _ _ _; exact (e_tup (a_cons (e_var 4) (a_cons (e_callTy (x := "int") call_int ca_int (by rfl) (g.free_int) PyProof.Rows.boot_int (a_cons (e_var 5) a_nil)) a_nil))))) a_nil))))))
def N_law : List Str := ["_law_script", "_law_turn", "_law_zdeal", "_law_zn", "_law_zbook", "_law_zworld", "_law_two", "_law_zpay", "_law_zrest"]
theorem sc_law : FnScope N_law ["_law_script"] (defScope (top 41)) := ⟨rfl, rfl, rfl, by decide +kernel, rfl, by decide +kernel, by decide +kernel⟩
def c_tail_0 : CS :=
  (cAsg (cMakeK "Deed" 5 0 4 m_Deed___init__ (selA s_Wk_Deed___init___1_tells_sets_needs_name a_Deed___init__) caNil (caCons (cLst (caCons (cC (.str "m")) caNil)) (caCons (cLst (caCons (cTup (caCons (cC (.str "a")) (caCons (cC (.str "to")) (caCons (cC (.int 1)) caNil)))) caNil)) (caCons (cLst (caCons (cTup (caCons (cC (.str "a")) (caCons (cC (.int 0)) caNil))) caNil)) (caCons (cC (.str "book")) caNil))))) (gNam 4))
def c_tail_1 : CS :=
  (cPar 7 8 (caCons (cMakeK "Deed" 5 3 0 m_Deed___init__ (selA s_Wk_Deed___init___4 a_Deed___init__) (caCons (cC (.str "pay")) (caCons (cTup caNil) (caCons (cLst (caCons (cTup (caCons (cC (.str "m")) (caCons (cC (.str "by")) (caCons (cOp subM (cVar 3) (cC (.int 1))) caNil)))) caNil)) caNil))) caNil) (caCons (cMakeK "Deed" 5 3 0 m_Deed___init__ (selA s_Wk_Deed___init___4 a_Deed___init__) (caCons (cC (.str "rest")) (caCons (cTup caNil) (caCons (cLst (caCons (cTup (caCons (cC (.str "m")) (caCons (cC (.str "back")) (caCons (cC (.int 0)) caNil)))) (caCons (cTup (caCons (cC (.str "a")) (caCons (cC (.str "to")) (caCons (cC (.int 0)) caNil)))) caNil))) caNil))) caNil) caNil)))
def c_tail_2 : CS :=
  (cAsg (cMakeK "World" 3 0 2 m_World___init__ (selA s_Wk_World___init___1_deeds_cells a_World___init__) caNil (caCons (cLst (caCons (cVar 4) (caCons (cVar 7) (caCons (cVar 8) caNil)))) (caCons (cLst (caCons (cTup (caCons (cC (.str "m")) (caCons (cVar 3) caNil))) (caCons (cTup (caCons (cC (.str "a")) (caCons (cC (.int 2)) caNil))) caNil))) caNil))) (gNam 5))
def c_tail_3 : CS :=
  (cWhen (cTest (cOp (eqM true) (cCallK 4 0 3 m_done (selA s_Wk_done_0_name_scene_world a_done) caNil (caCons (cC (.str "book")) (caCons (cTup (caCons (cOp subM (cVar 3) (cC (.int 1))) (caCons (cC (.int 0)) caNil))) (caCons (cVar 5) caNil)))) (cTup (caCons (cOp addM (cC (.str "ok ")) (cB strAllM (caCons (cOp subM (cVar 3) (cC (.int 1))) caNil))) (caCons (cTup (caCons (cOp subM (cVar 3) (cC (.int 1))) (caCons (cC (.int 1)) caNil))) caNil))))) (cRet (cC (.bl false))) cNext)
def c_tail_4 : CS :=
  (cWhen (cOr (cTest (cOp (eqM true) (cCallK 4 3 0 m_done (selA s_Wk_done_3 a_done) (caCons (cVar 5) (caCons (cTup (caCons (cC (.int 0)) (caCons (cC (.int 1)) caNil))) (caCons (cC (.str "book")) caNil))) caNil) (cTup (caCons (cC (.str "no")) (caCons (cTup (caCons (cC (.int 0)) (caCons (cC (.int 1)) caNil))) caNil))))) (cTest (cOp (eqM true) (cCallK 4 3 0 m_done (selA s_Wk_done_3 a_done) (caCons (cVar 5) (caCons (cTup (caCons (cC (.int 0)) (caCons (cC (.int 1)) caNil))) (caCons (cC (.str "pay")) caNil))) caNil) (cTup (caCons (cC (.str "ok")) (caCons (cTup (caCons (cOp subM (cVar 3) (cC (.int 1))) (caCons (cC (.int 1)) caNil))) caNil)))))) (cRet (cC (.bl false))) cNext)
def c_tail_5 : CS :=
  (cWhen (cTest (cOp (eqM true) (cCallK 4 3 0 m_done (selA s_Wk_done_3 a_done) (caCons (cVar 5) (caCons (cTup (caCons (cOp subM (cVar 3) (cC (.int 1))) (caCons (cC (.int 1)) caNil))) (caCons (cC (.str "pay")) caNil))) caNil) (cTup (caCons (cC (.str "ok")) (caCons (cTup (caCons (cOp modM (cB intM (caCons (cOp subM (cOp mulM (cC (.int 2)) (cVar 3)) (cC (.int 2))) caNil)) (cVar 3)) (caCons (cC (.int 1)) caNil))) caNil))))) (cRet (cC (.bl false))) cNext)
def c_tail_6 : CS :=
  (cWhen (cTest (cOp (eqM true) (cCallK 4 3 0 m_done (selA s_Wk_done_3 a_done) (caCons (cVar 5) (caCons (cTup (caCons (cC (.int 1)) (caCons (cC (.int 1)) caNil))) (caCons (cC (.str "rest")) caNil))) caNil) (cTup (caCons (cC (.str "ok")) (caCons (cTup (caCons (cC (.int 1)) (caCons (cC (.int 0)) caNil))) caNil))))) (cRet (cC (.bl false))) cNext)
def c_tail_7 : CS :=
  (cWhen (cTest (cOp (eqM true) (cCallK 4 3 1 m_done (selA s_Wk_done_3_old a_done) (caCons (cVar 5) (caCons (cTup (caCons (cC (.int 1)) (caCons (cC (.int 1)) caNil))) (caCons (cC (.str "rest")) caNil))) (caCons (cLst (caCons (cTup (caCons (cC (.str "m")) (caCons (cC (.int 0)) caNil))) caNil)) caNil)) (cTup (caCons (cC (.str "ok")) (caCons (cTup (caCons (cC (.int 0)) (caCons (cC (.int 0)) caNil))) caNil))))) (cRet (cC (.bl false))) cNext)
def c_tail_8 : CS :=
  (cWhen (cTest (cOp (eqM true) (cCall 4 m_done [] (caCons (cVar 5) (caCons (cTup (caCons (cC (.int 1)) (caCons (cC (.int 1)) caNil))) (caCons (cC (.str "rest")) (caCons (cTup (caCons (cTup (caCons (cC (.str "a")) (caCons (cC (.int 1)) caNil))) (caCons (cTup (caCons (cC (.str "m")) (caCons (cC (.int 0)) caNil))) caNil))) caNil))))) (cTup (caCons (cC (.str "ok")) (caCons (cTup (caCons (cC (.int 0)) (caCons (cC (.int 0)) caNil))) caNil))))) (cRet (cC (.bl false))) cNext)
def c_tail_9 : CS :=
  (cWhen (cOr (cTest (cOp (eqM true) (cCallK 3 0 3 m_told (selA s_Wk_told_0_answer_name_world a_told) caNil (caCons (cC (.str "ok 1")) (caCons (cC (.str "book")) (caCons (cVar 5) caNil)))) (cTup (caCons (cTup (caCons (cC (.str "m")) (caCons (cC (.int 1)) caNil))) caNil)))) (cTest (cOp (eqM true) (cCall 3 m_told [] (caCons (cVar 5) (caCons (cC (.str "book")) (caCons (cC (.str "no")) caNil)))) (cTup caNil)))) (cRet (cC (.bl false))) cNext)
def c_tail_10 : CS :=
  (cWhen (cOr (cTest (cOp (eqM true) (cCall 3 m_told [] (caCons (cVar 5) (caCons (cC (.str "book")) (caCons (cC (.str "ok 1 2")) caNil)))) (cTup (caCons (cTup (caCons (cC (.str "m")) (caCons (cC (.int 1)) caNil))) caNil)))) (cTest (cOp (eqM true) (cCall 3 m_told [] (caCons (cVar 5) (caCons (cC (.str "book")) (caCons (cC (.str "ok")) caNil)))) (cTup caNil)))) (cRet (cC (.bl false))) cNext)
def c_tail_11 : CS :=
  (cWhen (cTest (cOp (eqM true) (cCall 3 m_told [] (caCons (cVar 5) (caCons (cC (.str "pay")) (caCons (cC (.str "ok")) caNil)))) (cTup caNil))) (cRet (cC (.bl false))) cNext)
def c_tail_12 : CS :=
  (cWhen (cTest (cEqO true "Deed" m_Deed___eq__ (cMethK "World" "deed" 2 1 1 m_World_deed (selA s_Wk_World_deed_1_name a_World_deed) (cVar 5) caNil (caCons (cC (.str "rest")) caNil)) (cCMeth "Deed" 2 1 1 m_Deed_read (selA s_Wc_Deed_read_1_text a_Deed_read) caNil (caCons (cC (.str "deed rest: m back, a to 0")) caNil)))) (cRet (cC (.bl false))) cNext)
def c_tail_13 : CS :=
  (cWhen (cOr (cTest (cOp (eqM true) (cStrO "Deed" m_Deed___str__ (cMeth "World" "deed" 2 m_World_deed [] (cVar 5) (caCons (cC (.str "rest")) caNil))) (cC (.str "deed rest: a to 0, m back")))) (cTest (cOp (eqM true) (cB lenM (caCons (cMeth "World" "scenes" 1 m_World_scenes [] (cVar 5) caNil) caNil)) (cOp mulM (cC (.int 2)) (cVar 3))))) (cRet (cC (.bl false))) cNext)
def c_tail_14 : CS :=
  (cAsg (cMake "Deed" 5 m_Deed___init__ [] (caCons (cC (.str "two")) (caCons (cLst (caCons (cTup (caCons (cC (.str "bb")) (caCons (cC (.int 1)) caNil))) (caCons (cTup (caCons (cC (.str "a")) (caCons (cC (.int 0)) caNil))) caNil))) (caCons (cTup caNil) (caCons (cLst (caCons (cC (.str "bb")) (caCons (cC (.str "a")) caNil))) caNil))))) (gNam 6))
def c_tail_15 : CS :=
  (cWhen (cTest (cOp (eqM true) (cCallK 4 3 0 m_done (selA s_Wk_done_3 a_done) (caCons (cMake "World" 3 m_World___init__ [] (caCons (cLst (caCons (cTup (caCons (cC (.str "bb")) (caCons (cC (.int 2)) caNil))) (caCons (cTup (caCons (cC (.str "a")) (caCons (cC (.int 3)) caNil))) caNil))) (caCons (cLst (caCons (cVar 6) caNil)) caNil))) (caCons (cTup (caCons (cC (.int 1)) (caCons (cC (.int 0)) caNil))) (caCons (cC (.str "two")) caNil))) caNil) (cTup (caCons (cC (.str "ok 0 1")) (caCons (cTup (caCons (cC (.int 1)) (caCons (cC (.int 0)) caNil))) caNil))))) (cRet (cC (.bl false))) cNext)
def opts : List AEnv := ([2, 3, 4] : List Int).map fun z => [none, none, some (.int z), none, none, none, none, none]
def st_tail_0_0 : KS := ([none, none, some (.int (2)), none, none, none, none, none], [])
def st_tail_0_1 : KS := ([none, none, some (.int (3)), none, none, none, none, none], [])
def st_tail_0_2 : KS := ([none, none, some (.int (4)), none, none, none, none, none], [])
def st_tail_0 : List KS := [st_tail_0_0, st_tail_0_1, st_tail_0_2]
def st_tail_1_0 : KS := ([none, none, some (.int (2)), some (.obj 0), none, none, none, none], [.ins "Deed" [("name", .str "book"), ("needs", .tup [.tup [.str "a", .int (0)]]), ("sets", .tup [.tup [.str "a", .str "to", .int (1)]]), ("tells", .tup [.str "m"])]])
def st_tail_1_1 : KS := ([none, none, some (.int (3)), some (.obj 0), none, none, none, none], [.ins "Deed" [("name", .str "book"), ("needs", .tup [.tup [.str "a", .int (0)]]), ("sets", .tup [.tup [.str "a", .str "to", .int (1)]]), ("tells", .tup [.str "m"])]])
def st_tail_1_2 : KS := ([none, none, some (.int (4)), some (.obj 0), none, none, none, none], [.ins "Deed" [("name", .str "book"), ("needs", .tup [.tup [.str "a", .int (0)]]), ("sets", .tup [.tup [.str "a", .str "to", .int (1)]]), ("tells", .tup [.str "m"])]])
def st_tail_1 : List KS := [st_tail_1_0, st_tail_1_1, st_tail_1_2]
theorem ok_tail_0_0 : stageL c_tail_0 [3] st_tail_0_0 st_tail_1_0 = true := by decide +kernel
theorem ok_tail_0_1 : stageL c_tail_0 [3] st_tail_0_1 st_tail_1_1 = true := by decide +kernel
theorem ok_tail_0_2 : stageL c_tail_0 [3] st_tail_0_2 st_tail_1_2 = true := by decide +kernel
theorem ok_tail_0 : AllSt (stageL c_tail_0) st_tail_0 st_tail_1 := AllSt.cons ok_tail_0_0 (AllSt.cons ok_tail_0_1 (AllSt.cons ok_tail_0_2 (AllSt.nil)))
def st_tail_2_0 : KS := ([none, none, some (.int (2)), some (.obj 0), none, none, some (.obj 1), some (.obj 2)], [.ins "Deed" [("name", .str "book"), ("needs", .tup [.tup [.str "a", .int (0)]]), ("sets", .tup [.tup [.str "a", .str "to", .int (1)]]), ("tells", .tup [.str "m"])], .ins "Deed" [("name", .str "pay"), ("needs", .tup []), ("sets", .tup [.tup [.str "m", .str "by", .int (1)]]), ("tells", .tup [])], .ins "Deed" [("name", .str "rest"), ("needs", .tup []), ("sets", .tup [.tup [.str "a", .str "to", .int (0)], .tup [.str "m", .str "back", .int (0)]]), ("tells", .tup [])]])
def st_tail_2_1 : KS := ([none, none, some (.int (3)), some (.obj 0), none, none, some (.obj 1), some (.obj 2)], [.ins "Deed" [("name", .str "book"), ("needs", .tup [.tup [.str "a", .int (0)]]), ("sets", .tup [.tup [.str "a", .str "to", .int (1)]]), ("tells", .tup [.str "m"])], .ins "Deed" [("name", .str "pay"), ("needs", .tup []), ("sets", .tup [.tup [.str "m", .str "by", .int (2)]]), ("tells", .tup [])], .ins "Deed" [("name", .str "rest"), ("needs", .tup []), ("sets", .tup [.tup [.str "a", .str "to", .int (0)], .tup [.str "m", .str "back", .int (0)]]), ("tells", .tup [])]])
def st_tail_2_2 : KS := ([none, none, some (.int (4)), some (.obj 0), none, none, some (.obj 1), some (.obj 2)], [.ins "Deed" [("name", .str "book"), ("needs", .tup [.tup [.str "a", .int (0)]]), ("sets", .tup [.tup [.str "a", .str "to", .int (1)]]), ("tells", .tup [.str "m"])], .ins "Deed" [("name", .str "pay"), ("needs", .tup []), ("sets", .tup [.tup [.str "m", .str "by", .int (3)]]), ("tells", .tup [])], .ins "Deed" [("name", .str "rest"), ("needs", .tup []), ("sets", .tup [.tup [.str "a", .str "to", .int (0)], .tup [.str "m", .str "back", .int (0)]]), ("tells", .tup [])]])
def st_tail_2 : List KS := [st_tail_2_0, st_tail_2_1, st_tail_2_2]
theorem ok_tail_1_0 : stageL c_tail_1 [0, 2, 18] st_tail_1_0 st_tail_2_0 = true := by decide +kernel
theorem ok_tail_1_1 : stageL c_tail_1 [0, 2, 18] st_tail_1_1 st_tail_2_1 = true := by decide +kernel
theorem ok_tail_1_2 : stageL c_tail_1 [0, 2, 18] st_tail_1_2 st_tail_2_2 = true := by decide +kernel
theorem ok_tail_1 : AllSt (stageL c_tail_1) st_tail_1 st_tail_2 := AllSt.cons ok_tail_1_0 (AllSt.cons ok_tail_1_1 (AllSt.cons ok_tail_1_2 (AllSt.nil)))
def st_tail_3_0 : KS := ([none, none, some (.int (2)), some (.obj 0), some (.obj 1), none, some (.obj 2), some (.obj 3)], [.ins "Deed" [("name", .str "book"), ("needs", .tup [.tup [.str "a", .int (0)]]), ("sets", .tup [.tup [.str "a", .str "to", .int (1)]]), ("tells", .tup [.str "m"])], .ins "World" [("cells", .tup [.tup [.str "m", .int (2)], .tup [.str "a", .int (2)]]), ("deeds", .tup [.obj 0, .obj 2, .obj 3])], .ins "Deed" [("name", .str "pay"), ("needs", .tup []), ("sets", .tup [.tup [.str "m", .str "by", .int (1)]]), ("tells", .tup [])], .ins "Deed" [("name", .str "rest"), ("needs", .tup []), ("sets", .tup [.tup [.str "a", .str "to", .int (0)], .tup [.str "m", .str "back", .int (0)]]), ("tells", .tup [])]])
def st_tail_3_1 : KS := ([none, none, some (.int (3)), some (.obj 0), some (.obj 1), none, some (.obj 2), some (.obj 3)], [.ins "Deed" [("name", .str "book"), ("needs", .tup [.tup [.str "a", .int (0)]]), ("sets", .tup [.tup [.str "a", .str "to", .int (1)]]), ("tells", .tup [.str "m"])], .ins "World" [("cells", .tup [.tup [.str "m", .int (3)], .tup [.str "a", .int (2)]]), ("deeds", .tup [.obj 0, .obj 2, .obj 3])], .ins "Deed" [("name", .str "pay"), ("needs", .tup []), ("sets", .tup [.tup [.str "m", .str "by", .int (2)]]), ("tells", .tup [])], .ins "Deed" [("name", .str "rest"), ("needs", .tup []), ("sets", .tup [.tup [.str "a", .str "to", .int (0)], .tup [.str "m", .str "back", .int (0)]]), ("tells", .tup [])]])
def st_tail_3_2 : KS := ([none, none, some (.int (4)), some (.obj 0), some (.obj 1), none, some (.obj 2), some (.obj 3)], [.ins "Deed" [("name", .str "book"), ("needs", .tup [.tup [.str "a", .int (0)]]), ("sets", .tup [.tup [.str "a", .str "to", .int (1)]]), ("tells", .tup [.str "m"])], .ins "World" [("cells", .tup [.tup [.str "m", .int (4)], .tup [.str "a", .int (2)]]), ("deeds", .tup [.obj 0, .obj 2, .obj 3])], .ins "Deed" [("name", .str "pay"), ("needs", .tup []), ("sets", .tup [.tup [.str "m", .str "by", .int (3)]]), ("tells", .tup [])], .ins "Deed" [("name", .str "rest"), ("needs", .tup []), ("sets", .tup [.tup [.str "a", .str "to", .int (0)], .tup [.str "m", .str "back", .int (0)]]), ("tells", .tup [])]])
def st_tail_3 : List KS := [st_tail_3_0, st_tail_3_1, st_tail_3_2]
theorem ok_tail_2_0 : stageL c_tail_2 [0, 5, 1, 2] st_tail_2_0 st_tail_3_0 = true := by decide +kernel
theorem ok_tail_2_1 : stageL c_tail_2 [0, 5, 1, 2] st_tail_2_1 st_tail_3_1 = true := by decide +kernel
theorem ok_tail_2_2 : stageL c_tail_2 [0, 5, 1, 2] st_tail_2_2 st_tail_3_2 = true := by decide +kernel
theorem ok_tail_2 : AllSt (stageL c_tail_2) st_tail_2 st_tail_3 := AllSt.cons ok_tail_2_0 (AllSt.cons ok_tail_2_1 (AllSt.cons ok_tail_2_2 (AllSt.nil)))
def st_tail_4_0 : KS := ([none, none, some (.int (2)), some (.obj 0), some (.obj 1), none, some (.obj 2), some (.obj 3)], [.ins "Deed" [("name", .str "book"), ("needs", .tup [.tup [.str "a", .int (0)]]), ("sets", .tup [.tup [.str "a", .str "to", .int (1)]]), ("tells", .tup [.str "m"])], .ins "World" [("cells", .tup [.tup [.str "m", .int (2)], .tup [.str "a", .int (2)]]), ("deeds", .tup [.obj 0, .obj 2, .obj 3])], .ins "Deed" [("name", .str "pay"), ("needs", .tup []), ("sets", .tup [.tup [.str "m", .str "by", .int (1)]]), ("tells", .tup [])], .ins "Deed" [("name", .str "rest"), ("needs", .tup []), ("sets", .tup [.tup [.str "a", .str "to", .int (0)], .tup [.str "m", .str "back", .int (0)]]), ("tells", .tup [])]])
def st_tail_4_1 : KS := ([none, none, some (.int (3)), some (.obj 0), some (.obj 1), none, some (.obj 2), some (.obj 3)], [.ins "Deed" [("name", .str "book"), ("needs", .tup [.tup [.str "a", .int (0)]]), ("sets", .tup [.tup [.str "a", .str "to", .int (1)]]), ("tells", .tup [.str "m"])], .ins "World" [("cells", .tup [.tup [.str "m", .int (3)], .tup [.str "a", .int (2)]]), ("deeds", .tup [.obj 0, .obj 2, .obj 3])], .ins "Deed" [("name", .str "pay"), ("needs", .tup []), ("sets", .tup [.tup [.str "m", .str "by", .int (2)]]), ("tells", .tup [])], .ins "Deed" [("name", .str "rest"), ("needs", .tup []), ("sets", .tup [.tup [.str "a", .str "to", .int (0)], .tup [.str "m", .str "back", .int (0)]]), ("tells", .tup [])]])
def st_tail_4_2 : KS := ([none, none, some (.int (4)), some (.obj 0), some (.obj 1), none, some (.obj 2), some (.obj 3)], [.ins "Deed" [("name", .str "book"), ("needs", .tup [.tup [.str "a", .int (0)]]), ("sets", .tup [.tup [.str "a", .str "to", .int (1)]]), ("tells", .tup [.str "m"])], .ins "World" [("cells", .tup [.tup [.str "m", .int (4)], .tup [.str "a", .int (2)]]), ("deeds", .tup [.obj 0, .obj 2, .obj 3])], .ins "Deed" [("name", .str "pay"), ("needs", .tup []), ("sets", .tup [.tup [.str "m", .str "by", .int (3)]]), ("tells", .tup [])], .ins "Deed" [("name", .str "rest"), ("needs", .tup []), ("sets", .tup [.tup [.str "a", .str "to", .int (0)], .tup [.str "m", .str "back", .int (0)]]), ("tells", .tup [])]])
def st_tail_4 : List KS := [st_tail_4_0, st_tail_4_1, st_tail_4_2]
theorem ok_tail_3_0 : stageL c_tail_3 [0, 1, 2, 3] st_tail_3_0 st_tail_4_0 = true := by decide +kernel
theorem ok_tail_3_1 : stageL c_tail_3 [0, 1, 2, 3] st_tail_3_1 st_tail_4_1 = true := by decide +kernel
theorem ok_tail_3_2 : stageL c_tail_3 [0, 1, 2, 3] st_tail_3_2 st_tail_4_2 = true := by decide +kernel
theorem ok_tail_3 : AllSt (stageL c_tail_3) st_tail_3 st_tail_4 := AllSt.cons ok_tail_3_0 (AllSt.cons ok_tail_3_1 (AllSt.cons ok_tail_3_2 (AllSt.nil)))
def st_tail_5_0 : KS := ([none, none, some (.int (2)), some (.obj 0), some (.obj 1), none, some (.obj 2), some (.obj 3)], [.ins "Deed" [("name", .str "book"), ("needs", .tup [.tup [.str "a", .int (0)]]), ("sets", .tup [.tup [.str "a", .str "to", .int (1)]]), ("tells", .tup [.str "m"])], .ins "World" [("cells", .tup [.tup [.str "m", .int (2)], .tup [.str "a", .int (2)]]), ("deeds", .tup [.obj 0, .obj 2, .obj 3])], .ins "Deed" [("name", .str "pay"), ("needs", .tup []), ("sets", .tup [.tup [.str "m", .str "by", .int (1)]]), ("tells", .tup [])], .ins "Deed" [("name", .str "rest"), ("needs", .tup []), ("sets", .tup [.tup [.str "a", .str "to", .int (0)], .tup [.str "m", .str "back", .int (0)]]), ("tells", .tup [])]])
def st_tail_5_1 : KS := ([none, none, some (.int (3)), some (.obj 0), some (.obj 1), none, some (.obj 2), some (.obj 3)], [.ins "Deed" [("name", .str "book"), ("needs", .tup [.tup [.str "a", .int (0)]]), ("sets", .tup [.tup [.str "a", .str "to", .int (1)]]), ("tells", .tup [.str "m"])], .ins "World" [("cells", .tup [.tup [.str "m", .int (3)], .tup [.str "a", .int (2)]]), ("deeds", .tup [.obj 0, .obj 2, .obj 3])], .ins "Deed" [("name", .str "pay"), ("needs", .tup []), ("sets", .tup [.tup [.str "m", .str "by", .int (2)]]), ("tells", .tup [])], .ins "Deed" [("name", .str "rest"), ("needs", .tup []), ("sets", .tup [.tup [.str "a", .str "to", .int (0)], .tup [.str "m", .str "back", .int (0)]]), ("tells", .tup [])]])
def st_tail_5_2 : KS := ([none, none, some (.int (4)), some (.obj 0), some (.obj 1), none, some (.obj 2), some (.obj 3)], [.ins "Deed" [("name", .str "book"), ("needs", .tup [.tup [.str "a", .int (0)]]), ("sets", .tup [.tup [.str "a", .str "to", .int (1)]]), ("tells", .tup [.str "m"])], .ins "World" [("cells", .tup [.tup [.str "m", .int (4)], .tup [.str "a", .int (2)]]), ("deeds", .tup [.obj 0, .obj 2, .obj 3])], .ins "Deed" [("name", .str "pay"), ("needs", .tup []), ("sets", .tup [.tup [.str "m", .str "by", .int (3)]]), ("tells", .tup [])], .ins "Deed" [("name", .str "rest"), ("needs", .tup []), ("sets", .tup [.tup [.str "a", .str "to", .int (0)], .tup [.str "m", .str "back", .int (0)]]), ("tells", .tup [])]])
def st_tail_5 : List KS := [st_tail_5_0, st_tail_5_1, st_tail_5_2]
theorem ok_tail_4_0 : stageL c_tail_4 [0, 1, 2, 3] st_tail_4_0 st_tail_5_0 = true := by decide +kernel
theorem ok_tail_4_1 : stageL c_tail_4 [0, 1, 2, 3] st_tail_4_1 st_tail_5_1 = true := by decide +kernel
theorem ok_tail_4_2 : stageL c_tail_4 [0, 1, 2, 3] st_tail_4_2 st_tail_5_2 = true := by decide +kernel
theorem ok_tail_4 : AllSt (stageL c_tail_4) st_tail_4 st_tail_5 := AllSt.cons ok_tail_4_0 (AllSt.cons ok_tail_4_1 (AllSt.cons ok_tail_4_2 (AllSt.nil)))
def st_tail_6_0 : KS := ([none, none, some (.int (2)), some (.obj 0), some (.obj 1), none, some (.obj 2), some (.obj 3)], [.ins "Deed" [("name", .str "book"), ("needs", .tup [.tup [.str "a", .int (0)]]), ("sets", .tup [.tup [.str "a", .str "to", .int (1)]]), ("tells", .tup [.str "m"])], .ins "World" [("cells", .tup [.tup [.str "m", .int (2)], .tup [.str "a", .int (2)]]), ("deeds", .tup [.obj 0, .obj 2, .obj 3])], .ins "Deed" [("name", .str "pay"), ("needs", .tup []), ("sets", .tup [.tup [.str "m", .str "by", .int (1)]]), ("tells", .tup [])], .ins "Deed" [("name", .str "rest"), ("needs", .tup []), ("sets", .tup [.tup [.str "a", .str "to", .int (0)], .tup [.str "m", .str "back", .int (0)]]), ("tells", .tup [])]])
def st_tail_6_1 : KS := ([none, none, some (.int (3)), some (.obj 0), some (.obj 1), none, some (.obj 2), some (.obj 3)], [.ins "Deed" [("name", .str "book"), ("needs", .tup [.tup [.str "a", .int (0)]]), ("sets", .tup [.tup [.str "a", .str "to", .int (1)]]), ("tells", .tup [.str "m"])], .ins "World" [("cells", .tup [.tup [.str "m", .int (3)], .tup [.str "a", .int (2)]]), ("deeds", .tup [.obj 0, .obj 2, .obj 3])], .ins "Deed" [("name", .str "pay"), ("needs", .tup []), ("sets", .tup [.tup [.str "m", .str "by", .int (2)]]), ("tells", .tup [])], .ins "Deed" [("name", .str "rest"), ("needs", .tup []), ("sets", .tup [.tup [.str "a", .str "to", .int (0)], .tup [.str "m", .str "back", .int (0)]]), ("tells", .tup [])]])
def st_tail_6_2 : KS := ([none, none, some (.int (4)), some (.obj 0), some (.obj 1), none, some (.obj 2), some (.obj 3)], [.ins "Deed" [("name", .str "book"), ("needs", .tup [.tup [.str "a", .int (0)]]), ("sets", .tup [.tup [.str "a", .str "to", .int (1)]]), ("tells", .tup [.str "m"])], .ins "World" [("cells", .tup [.tup [.str "m", .int (4)], .tup [.str "a", .int (2)]]), ("deeds", .tup [.obj 0, .obj 2, .obj 3])], .ins "Deed" [("name", .str "pay"), ("needs", .tup []), ("sets", .tup [.tup [.str "m", .str "by", .int (3)]]), ("tells", .tup [])], .ins "Deed" [("name", .str "rest"), ("needs", .tup []), ("sets", .tup [.tup [.str "a", .str "to", .int (0)], .tup [.str "m", .str "back", .int (0)]]), ("tells", .tup [])]])
def st_tail_6 : List KS := [st_tail_6_0, st_tail_6_1, st_tail_6_2]
theorem ok_tail_5_0 : stageL c_tail_5 [0, 1, 2, 3] st_tail_5_0 st_tail_6_0 = true := by decide +kernel
theorem ok_tail_5_1 : stageL c_tail_5 [0, 1, 2, 3] st_tail_5_1 st_tail_6_1 = true := by decide +kernel
theorem ok_tail_5_2 : stageL c_tail_5 [0, 1, 2, 3] st_tail_5_2 st_tail_6_2 = true := by decide +kernel
theorem ok_tail_5 : AllSt (stageL c_tail_5) st_tail_5 st_tail_6 := AllSt.cons ok_tail_5_0 (AllSt.cons ok_tail_5_1 (AllSt.cons ok_tail_5_2 (AllSt.nil)))
def st_tail_7_0 : KS := ([none, none, some (.int (2)), some (.obj 0), some (.obj 1), none, some (.obj 2), some (.obj 3)], [.ins "Deed" [("name", .str "book"), ("needs", .tup [.tup [.str "a", .int (0)]]), ("sets", .tup [.tup [.str "a", .str "to", .int (1)]]), ("tells", .tup [.str "m"])], .ins "World" [("cells", .tup [.tup [.str "m", .int (2)], .tup [.str "a", .int (2)]]), ("deeds", .tup [.obj 0, .obj 2, .obj 3])], .ins "Deed" [("name", .str "pay"), ("needs", .tup []), ("sets", .tup [.tup [.str "m", .str "by", .int (1)]]), ("tells", .tup [])], .ins "Deed" [("name", .str "rest"), ("needs", .tup []), ("sets", .tup [.tup [.str "a", .str "to", .int (0)], .tup [.str "m", .str "back", .int (0)]]), ("tells", .tup [])]])
def st_tail_7_1 : KS := ([none, none, some (.int (3)), some (.obj 0), some (.obj 1), none, some (.obj 2), some (.obj 3)], [.ins "Deed" [("name", .str "book"), ("needs", .tup [.tup [.str "a", .int (0)]]), ("sets", .tup [.tup [.str "a", .str "to", .int (1)]]), ("tells", .tup [.str "m"])], .ins "World" [("cells", .tup [.tup [.str "m", .int (3)], .tup [.str "a", .int (2)]]), ("deeds", .tup [.obj 0, .obj 2, .obj 3])], .ins "Deed" [("name", .str "pay"), ("needs", .tup []), ("sets", .tup [.tup [.str "m", .str "by", .int (2)]]), ("tells", .tup [])], .ins "Deed" [("name", .str "rest"), ("needs", .tup []), ("sets", .tup [.tup [.str "a", .str "to", .int (0)], .tup [.str "m", .str "back", .int (0)]]), ("tells", .tup [])]])
def st_tail_7_2 : KS := ([none, none, some (.int (4)), some (.obj 0), some (.obj 1), none, some (.obj 2), some (.obj 3)], [.ins "Deed" [("name", .str "book"), ("needs", .tup [.tup [.str "a", .int (0)]]), ("sets", .tup [.tup [.str "a", .str "to", .int (1)]]), ("tells", .tup [.str "m"])], .ins "World" [("cells", .tup [.tup [.str "m", .int (4)], .tup [.str "a", .int (2)]]), ("deeds", .tup [.obj 0, .obj 2, .obj 3])], .ins "Deed" [("name", .str "pay"), ("needs", .tup []), ("sets", .tup [.tup [.str "m", .str "by", .int (3)]]), ("tells", .tup [])], .ins "Deed" [("name", .str "rest"), ("needs", .tup []), ("sets", .tup [.tup [.str "a", .str "to", .int (0)], .tup [.str "m", .str "back", .int (0)]]), ("tells", .tup [])]])
def st_tail_7 : List KS := [st_tail_7_0, st_tail_7_1, st_tail_7_2]
theorem ok_tail_6_0 : stageL c_tail_6 [0, 1, 2, 3] st_tail_6_0 st_tail_7_0 = true := by decide +kernel
theorem ok_tail_6_1 : stageL c_tail_6 [0, 1, 2, 3] st_tail_6_1 st_tail_7_1 = true := by decide +kernel
theorem ok_tail_6_2 : stageL c_tail_6 [0, 1, 2, 3] st_tail_6_2 st_tail_7_2 = true := by decide +kernel
theorem ok_tail_6 : AllSt (stageL c_tail_6) st_tail_6 st_tail_7 := AllSt.cons ok_tail_6_0 (AllSt.cons ok_tail_6_1 (AllSt.cons ok_tail_6_2 (AllSt.nil)))
def st_tail_8_0 : KS := ([none, none, some (.int (2)), some (.obj 0), some (.obj 1), none, some (.obj 2), some (.obj 3)], [.ins "Deed" [("name", .str "book"), ("needs", .tup [.tup [.str "a", .int (0)]]), ("sets", .tup [.tup [.str "a", .str "to", .int (1)]]), ("tells", .tup [.str "m"])], .ins "World" [("cells", .tup [.tup [.str "m", .int (2)], .tup [.str "a", .int (2)]]), ("deeds", .tup [.obj 0, .obj 2, .obj 3])], .ins "Deed" [("name", .str "pay"), ("needs", .tup []), ("sets", .tup [.tup [.str "m", .str "by", .int (1)]]), ("tells", .tup [])], .ins "Deed" [("name", .str "rest"), ("needs", .tup []), ("sets", .tup [.tup [.str "a", .str "to", .int (0)], .tup [.str "m", .str "back", .int (0)]]), ("tells", .tup [])]])
def st_tail_8_1 : KS := ([none, none, some (.int (3)), some (.obj 0), some (.obj 1), none, some (.obj 2), some (.obj 3)], [.ins "Deed" [("name", .str "book"), ("needs", .tup [.tup [.str "a", .int (0)]]), ("sets", .tup [.tup [.str "a", .str "to", .int (1)]]), ("tells", .tup [.str "m"])], .ins "World" [("cells", .tup [.tup [.str "m", .int (3)], .tup [.str "a", .int (2)]]), ("deeds", .tup [.obj 0, .obj 2, .obj 3])], .ins "Deed" [("name", .str "pay"), ("needs", .tup []), ("sets", .tup [.tup [.str "m", .str "by", .int (2)]]), ("tells", .tup [])], .ins "Deed" [("name", .str "rest"), ("needs", .tup []), ("sets", .tup [.tup [.str "a", .str "to", .int (0)], .tup [.str "m", .str "back", .int (0)]]), ("tells", .tup [])]])
def st_tail_8_2 : KS := ([none, none, some (.int (4)), some (.obj 0), some (.obj 1), none, some (.obj 2), some (.obj 3)], [.ins "Deed" [("name", .str "book"), ("needs", .tup [.tup [.str "a", .int (0)]]), ("sets", .tup [.tup [.str "a", .str "to", .int (1)]]), ("tells", .tup [.str "m"])], .ins "World" [("cells", .tup [.tup [.str "m", .int (4)], .tup [.str "a", .int (2)]]), ("deeds", .tup [.obj 0, .obj 2, .obj 3])], .ins "Deed" [("name", .str "pay"), ("needs", .tup []), ("sets", .tup [.tup [.str "m", .str "by", .int (3)]]), ("tells", .tup [])], .ins "Deed" [("name", .str "rest"), ("needs", .tup []), ("sets", .tup [.tup [.str "a", .str "to", .int (0)], .tup [.str "m", .str "back", .int (0)]]), ("tells", .tup [])]])
def st_tail_8 : List KS := [st_tail_8_0, st_tail_8_1, st_tail_8_2]
theorem ok_tail_7_0 : stageL c_tail_7 [0, 1, 2, 3] st_tail_7_0 st_tail_8_0 = true := by decide +kernel
theorem ok_tail_7_1 : stageL c_tail_7 [0, 1, 2, 3] st_tail_7_1 st_tail_8_1 = true := by decide +kernel
theorem ok_tail_7_2 : stageL c_tail_7 [0, 1, 2, 3] st_tail_7_2 st_tail_8_2 = true := by decide +kernel
theorem ok_tail_7 : AllSt (stageL c_tail_7) st_tail_7 st_tail_8 := AllSt.cons ok_tail_7_0 (AllSt.cons ok_tail_7_1 (AllSt.cons ok_tail_7_2 (AllSt.nil)))
def st_tail_9_0 : KS := ([none, none, some (.int (2)), some (.obj 0), some (.obj 1), none, some (.obj 2), some (.obj 3)], [.ins "Deed" [("name", .str "book"), ("needs", .tup [.tup [.str "a", .int (0)]]), ("sets", .tup [.tup [.str "a", .str "to", .int (1)]]), ("tells", .tup [.str "m"])], .ins "World" [("cells", .tup [.tup [.str "m", .int (2)], .tup [.str "a", .int (2)]]), ("deeds", .tup [.obj 0, .obj 2, .obj 3])], .ins "Deed" [("name", .str "pay"), ("needs", .tup []), ("sets", .tup [.tup [.str "m", .str "by", .int (1)]]), ("tells", .tup [])], .ins "Deed" [("name", .str "rest"), ("needs", .tup []), ("sets", .tup [.tup [.str "a", .str "to", .int (0)], .tup [.str "m", .str "back", .int (0)]]), ("tells", .tup [])]])
def st_tail_9_1 : KS := ([none, none, some (.int (3)), some (.obj 0), some (.obj 1), none, some (.obj 2), some (.obj 3)], [.ins "Deed" [("name", .str "book"), ("needs", .tup [.tup [.str "a", .int (0)]]), ("sets", .tup [.tup [.str "a", .str "to", .int (1)]]), ("tells", .tup [.str "m"])], .ins "World" [("cells", .tup [.tup [.str "m", .int (3)], .tup [.str "a", .int (2)]]), ("deeds", .tup [.obj 0, .obj 2, .obj 3])], .ins "Deed" [("name", .str "pay"), ("needs", .tup []), ("sets", .tup [.tup [.str "m", .str "by", .int (2)]]), ("tells", .tup [])], .ins "Deed" [("name", .str "rest"), ("needs", .tup []), ("sets", .tup [.tup [.str "a", .str "to", .int (0)], .tup [.str "m", .str "back", .int (0)]]), ("tells", .tup [])]])
def st_tail_9_2 : KS := ([none, none, some (.int (4)), some (.obj 0), some (.obj 1), none, some (.obj 2), some (.obj 3)], [.ins "Deed" [("name", .str "book"), ("needs", .tup [.tup [.str "a", .int (0)]]), ("sets", .tup [.tup [.str "a", .str "to", .int (1)]]), ("tells", .tup [.str "m"])], .ins "World" [("cells", .tup [.tup [.str "m", .int (4)], .tup [.str "a", .int (2)]]), ("deeds", .tup [.obj 0, .obj 2, .obj 3])], .ins "Deed" [("name", .str "pay"), ("needs", .tup []), ("sets", .tup [.tup [.str "m", .str "by", .int (3)]]), ("tells", .tup [])], .ins "Deed" [("name", .str "rest"), ("needs", .tup []), ("sets", .tup [.tup [.str "a", .str "to", .int (0)], .tup [.str "m", .str "back", .int (0)]]), ("tells", .tup [])]])
def st_tail_9 : List KS := [st_tail_9_0, st_tail_9_1, st_tail_9_2]
theorem ok_tail_8_0 : stageL c_tail_8 [0, 1, 2, 3] st_tail_8_0 st_tail_9_0 = true := by decide +kernel
theorem ok_tail_8_1 : stageL c_tail_8 [0, 1, 2, 3] st_tail_8_1 st_tail_9_1 = true := by decide +kernel
theorem ok_tail_8_2 : stageL c_tail_8 [0, 1, 2, 3] st_tail_8_2 st_tail_9_2 = true := by decide +kernel
theorem ok_tail_8 : AllSt (stageL c_tail_8) st_tail_8 st_tail_9 := AllSt.cons ok_tail_8_0 (AllSt.cons ok_tail_8_1 (AllSt.cons ok_tail_8_2 (AllSt.nil)))
def st_tail_10_0 : KS := ([none, none, some (.int (2)), some (.obj 0), some (.obj 1), none, some (.obj 2), some (.obj 3)], [.ins "Deed" [("name", .str "book"), ("needs", .tup [.tup [.str "a", .int (0)]]), ("sets", .tup [.tup [.str "a", .str "to", .int (1)]]), ("tells", .tup [.str "m"])], .ins "World" [("cells", .tup [.tup [.str "m", .int (2)], .tup [.str "a", .int (2)]]), ("deeds", .tup [.obj 0, .obj 2, .obj 3])], .ins "Deed" [("name", .str "pay"), ("needs", .tup []), ("sets", .tup [.tup [.str "m", .str "by", .int (1)]]), ("tells", .tup [])], .ins "Deed" [("name", .str "rest"), ("needs", .tup []), ("sets", .tup [.tup [.str "a", .str "to", .int (0)], .tup [.str "m", .str "back", .int (0)]]), ("tells", .tup [])]])
def st_tail_10_1 : KS := ([none, none, some (.int (3)), some (.obj 0), some (.obj 1), none, some (.obj 2), some (.obj 3)], [.ins "Deed" [("name", .str "book"), ("needs", .tup [.tup [.str "a", .int (0)]]), ("sets", .tup [.tup [.str "a", .str "to", .int (1)]]), ("tells", .tup [.str "m"])], .ins "World" [("cells", .tup [.tup [.str "m", .int (3)], .tup [.str "a", .int (2)]]), ("deeds", .tup [.obj 0, .obj 2, .obj 3])], .ins "Deed" [("name", .str "pay"), ("needs", .tup []), ("sets", .tup [.tup [.str "m", .str "by", .int (2)]]), ("tells", .tup [])], .ins "Deed" [("name", .str "rest"), ("needs", .tup []), ("sets", .tup [.tup [.str "a", .str "to", .int (0)], .tup [.str "m", .str "back", .int (0)]]), ("tells", .tup [])]])
def st_tail_10_2 : KS := ([none, none, some (.int (4)), some (.obj 0), some (.obj 1), none, some (.obj 2), some (.obj 3)], [.ins "Deed" [("name", .str "book"), ("needs", .tup [.tup [.str "a", .int (0)]]), ("sets", .tup [.tup [.str "a", .str "to", .int (1)]]), ("tells", .tup [.str "m"])], .ins "World" [("cells", .tup [.tup [.str "m", .int (4)], .tup [.str "a", .int (2)]]), ("deeds", .tup [.obj 0, .obj 2, .obj 3])], .ins "Deed" [("name", .str "pay"), ("needs", .tup []), ("sets", .tup [.tup [.str "m", .str "by", .int (3)]]), ("tells", .tup [])], .ins "Deed" [("name", .str "rest"), ("needs", .tup []), ("sets", .tup [.tup [.str "a", .str "to", .int (0)], .tup [.str "m", .str "back", .int (0)]]), ("tells", .tup [])]])
def st_tail_10 : List KS := [st_tail_10_0, st_tail_10_1, st_tail_10_2]
theorem ok_tail_9_0 : stageL c_tail_9 [0, 1, 2, 3] st_tail_9_0 st_tail_10_0 = true := by decide +kernel
theorem ok_tail_9_1 : stageL c_tail_9 [0, 1, 2, 3] st_tail_9_1 st_tail_10_1 = true := by decide +kernel
theorem ok_tail_9_2 : stageL c_tail_9 [0, 1, 2, 3] st_tail_9_2 st_tail_10_2 = true := by decide +kernel
theorem ok_tail_9 : AllSt (stageL c_tail_9) st_tail_9 st_tail_10 := AllSt.cons ok_tail_9_0 (AllSt.cons ok_tail_9_1 (AllSt.cons ok_tail_9_2 (AllSt.nil)))
def st_tail_11_0 : KS := ([none, none, some (.int (2)), some (.obj 0), some (.obj 1), none, some (.obj 2), some (.obj 3)], [.ins "Deed" [("name", .str "book"), ("needs", .tup [.tup [.str "a", .int (0)]]), ("sets", .tup [.tup [.str "a", .str "to", .int (1)]]), ("tells", .tup [.str "m"])], .ins "World" [("cells", .tup [.tup [.str "m", .int (2)], .tup [.str "a", .int (2)]]), ("deeds", .tup [.obj 0, .obj 2, .obj 3])], .ins "Deed" [("name", .str "pay"), ("needs", .tup []), ("sets", .tup [.tup [.str "m", .str "by", .int (1)]]), ("tells", .tup [])], .ins "Deed" [("name", .str "rest"), ("needs", .tup []), ("sets", .tup [.tup [.str "a", .str "to", .int (0)], .tup [.str "m", .str "back", .int (0)]]), ("tells", .tup [])]])
def st_tail_11_1 : KS := ([none, none, some (.int (3)), some (.obj 0), some (.obj 1), none, some (.obj 2), some (.obj 3)], [.ins "Deed" [("name", .str "book"), ("needs", .tup [.tup [.str "a", .int (0)]]), ("sets", .tup [.tup [.str "a", .str "to", .int (1)]]), ("tells", .tup [.str "m"])], .ins "World" [("cells", .tup [.tup [.str "m", .int (3)], .tup [.str "a", .int (2)]]), ("deeds", .tup [.obj 0, .obj 2, .obj 3])], .ins "Deed" [("name", .str "pay"), ("needs", .tup []), ("sets", .tup [.tup [.str "m", .str "by", .int (2)]]), ("tells", .tup [])], .ins "Deed" [("name", .str "rest"), ("needs", .tup []), ("sets", .tup [.tup [.str "a", .str "to", .int (0)], .tup [.str "m", .str "back", .int (0)]]), ("tells", .tup [])]])
def st_tail_11_2 : KS := ([none, none, some (.int (4)), some (.obj 0), some (.obj 1), none, some (.obj 2), some (.obj 3)], [.ins "Deed" [("name", .str "book"), ("needs", .tup [.tup [.str "a", .int (0)]]), ("sets", .tup [.tup [.str "a", .str "to", .int (1)]]), ("tells", .tup [.str "m"])], .ins "World" [("cells", .tup [.tup [.str "m", .int (4)], .tup [.str "a", .int (2)]]), ("deeds", .tup [.obj 0, .obj 2, .obj 3])], .ins "Deed" [("name", .str "pay"), ("needs", .tup []), ("sets", .tup [.tup [.str "m", .str "by", .int (3)]]), ("tells", .tup [])], .ins "Deed" [("name", .str "rest"), ("needs", .tup []), ("sets", .tup [.tup [.str "a", .str "to", .int (0)], .tup [.str "m", .str "back", .int (0)]]), ("tells", .tup [])]])
def st_tail_11 : List KS := [st_tail_11_0, st_tail_11_1, st_tail_11_2]
theorem ok_tail_10_0 : stageL c_tail_10 [0, 1, 2, 3] st_tail_10_0 st_tail_11_0 = true := by decide +kernel
theorem ok_tail_10_1 : stageL c_tail_10 [0, 1, 2, 3] st_tail_10_1 st_tail_11_1 = true := by decide +kernel
theorem ok_tail_10_2 : stageL c_tail_10 [0, 1, 2, 3] st_tail_10_2 st_tail_11_2 = true := by decide +kernel
theorem ok_tail_10 : AllSt (stageL c_tail_10) st_tail_10 st_tail_11 := AllSt.cons ok_tail_10_0 (AllSt.cons ok_tail_10_1 (AllSt.cons ok_tail_10_2 (AllSt.nil)))
def st_tail_12_0 : KS := ([none, none, some (.int (2)), some (.obj 0), some (.obj 1), none, some (.obj 2), some (.obj 3)], [.ins "Deed" [("name", .str "book"), ("needs", .tup [.tup [.str "a", .int (0)]]), ("sets", .tup [.tup [.str "a", .str "to", .int (1)]]), ("tells", .tup [.str "m"])], .ins "World" [("cells", .tup [.tup [.str "m", .int (2)], .tup [.str "a", .int (2)]]), ("deeds", .tup [.obj 0, .obj 2, .obj 3])], .ins "Deed" [("name", .str "pay"), ("needs", .tup []), ("sets", .tup [.tup [.str "m", .str "by", .int (1)]]), ("tells", .tup [])], .ins "Deed" [("name", .str "rest"), ("needs", .tup []), ("sets", .tup [.tup [.str "a", .str "to", .int (0)], .tup [.str "m", .str "back", .int (0)]]), ("tells", .tup [])]])
def st_tail_12_1 : KS := ([none, none, some (.int (3)), some (.obj 0), some (.obj 1), none, some (.obj 2), some (.obj 3)], [.ins "Deed" [("name", .str "book"), ("needs", .tup [.tup [.str "a", .int (0)]]), ("sets", .tup [.tup [.str "a", .str "to", .int (1)]]), ("tells", .tup [.str "m"])], .ins "World" [("cells", .tup [.tup [.str "m", .int (3)], .tup [.str "a", .int (2)]]), ("deeds", .tup [.obj 0, .obj 2, .obj 3])], .ins "Deed" [("name", .str "pay"), ("needs", .tup []), ("sets", .tup [.tup [.str "m", .str "by", .int (2)]]), ("tells", .tup [])], .ins "Deed" [("name", .str "rest"), ("needs", .tup []), ("sets", .tup [.tup [.str "a", .str "to", .int (0)], .tup [.str "m", .str "back", .int (0)]]), ("tells", .tup [])]])
def st_tail_12_2 : KS := ([none, none, some (.int (4)), some (.obj 0), some (.obj 1), none, some (.obj 2), some (.obj 3)], [.ins "Deed" [("name", .str "book"), ("needs", .tup [.tup [.str "a", .int (0)]]), ("sets", .tup [.tup [.str "a", .str "to", .int (1)]]), ("tells", .tup [.str "m"])], .ins "World" [("cells", .tup [.tup [.str "m", .int (4)], .tup [.str "a", .int (2)]]), ("deeds", .tup [.obj 0, .obj 2, .obj 3])], .ins "Deed" [("name", .str "pay"), ("needs", .tup []), ("sets", .tup [.tup [.str "m", .str "by", .int (3)]]), ("tells", .tup [])], .ins "Deed" [("name", .str "rest"), ("needs", .tup []), ("sets", .tup [.tup [.str "a", .str "to", .int (0)], .tup [.str "m", .str "back", .int (0)]]), ("tells", .tup [])]])
def st_tail_12 : List KS := [st_tail_12_0, st_tail_12_1, st_tail_12_2]
theorem ok_tail_11_0 : stageL c_tail_11 [0, 1, 2, 3] st_tail_11_0 st_tail_12_0 = true := by decide +kernel
theorem ok_tail_11_1 : stageL c_tail_11 [0, 1, 2, 3] st_tail_11_1 st_tail_12_1 = true := by decide +kernel
theorem ok_tail_11_2 : stageL c_tail_11 [0, 1, 2, 3] st_tail_11_2 st_tail_12_2 = true := by decide +kernel
theorem ok_tail_11 : AllSt (stageL c_tail_11) st_tail_11 st_tail_12 := AllSt.cons ok_tail_11_0 (AllSt.cons ok_tail_11_1 (AllSt.cons ok_tail_11_2 (AllSt.nil)))
def st_tail_13_0 : KS := ([none, none, some (.int (2)), some (.obj 0), some (.obj 1), none, some (.obj 2), some (.obj 3)], [.ins "Deed" [("name", .str "book"), ("needs", .tup [.tup [.str "a", .int (0)]]), ("sets", .tup [.tup [.str "a", .str "to", .int (1)]]), ("tells", .tup [.str "m"])], .ins "World" [("cells", .tup [.tup [.str "m", .int (2)], .tup [.str "a", .int (2)]]), ("deeds", .tup [.obj 0, .obj 2, .obj 3])], .ins "Deed" [("name", .str "pay"), ("needs", .tup []), ("sets", .tup [.tup [.str "m", .str "by", .int (1)]]), ("tells", .tup [])], .ins "Deed" [("name", .str "rest"), ("needs", .tup []), ("sets", .tup [.tup [.str "a", .str "to", .int (0)], .tup [.str "m", .str "back", .int (0)]]), ("tells", .tup [])]])
def st_tail_13_1 : KS := ([none, none, some (.int (3)), some (.obj 0), some (.obj 1), none, some (.obj 2), some (.obj 3)], [.ins "Deed" [("name", .str "book"), ("needs", .tup [.tup [.str "a", .int (0)]]), ("sets", .tup [.tup [.str "a", .str "to", .int (1)]]), ("tells", .tup [.str "m"])], .ins "World" [("cells", .tup [.tup [.str "m", .int (3)], .tup [.str "a", .int (2)]]), ("deeds", .tup [.obj 0, .obj 2, .obj 3])], .ins "Deed" [("name", .str "pay"), ("needs", .tup []), ("sets", .tup [.tup [.str "m", .str "by", .int (2)]]), ("tells", .tup [])], .ins "Deed" [("name", .str "rest"), ("needs", .tup []), ("sets", .tup [.tup [.str "a", .str "to", .int (0)], .tup [.str "m", .str "back", .int (0)]]), ("tells", .tup [])]])
def st_tail_13_2 : KS := ([none, none, some (.int (4)), some (.obj 0), some (.obj 1), none, some (.obj 2), some (.obj 3)], [.ins "Deed" [("name", .str "book"), ("needs", .tup [.tup [.str "a", .int (0)]]), ("sets", .tup [.tup [.str "a", .str "to", .int (1)]]), ("tells", .tup [.str "m"])], .ins "World" [("cells", .tup [.tup [.str "m", .int (4)], .tup [.str "a", .int (2)]]), ("deeds", .tup [.obj 0, .obj 2, .obj 3])], .ins "Deed" [("name", .str "pay"), ("needs", .tup []), ("sets", .tup [.tup [.str "m", .str "by", .int (3)]]), ("tells", .tup [])], .ins "Deed" [("name", .str "rest"), ("needs", .tup []), ("sets", .tup [.tup [.str "a", .str "to", .int (0)], .tup [.str "m", .str "back", .int (0)]]), ("tells", .tup [])]])
def st_tail_13 : List KS := [st_tail_13_0, st_tail_13_1, st_tail_13_2]
theorem ok_tail_12_0 : stageL c_tail_12 [0, 1, 2, 3] st_tail_12_0 st_tail_13_0 = true := by decide +kernel
theorem ok_tail_12_1 : stageL c_tail_12 [0, 1, 2, 3] st_tail_12_1 st_tail_13_1 = true := by decide +kernel
theorem ok_tail_12_2 : stageL c_tail_12 [0, 1, 2, 3] st_tail_12_2 st_tail_13_2 = true := by decide +kernel
theorem ok_tail_12 : AllSt (stageL c_tail_12) st_tail_12 st_tail_13 := AllSt.cons ok_tail_12_0 (AllSt.cons ok_tail_12_1 (AllSt.cons ok_tail_12_2 (AllSt.nil)))
def st_tail_14_0 : KS := ([none, none, some (.int (2)), some (.obj 0), some (.obj 1), none, some (.obj 2), some (.obj 3)], [.ins "Deed" [("name", .str "book"), ("needs", .tup [.tup [.str "a", .int (0)]]), ("sets", .tup [.tup [.str "a", .str "to", .int (1)]]), ("tells", .tup [.str "m"])], .ins "World" [("cells", .tup [.tup [.str "m", .int (2)], .tup [.str "a", .int (2)]]), ("deeds", .tup [.obj 0, .obj 2, .obj 3])], .ins "Deed" [("name", .str "pay"), ("needs", .tup []), ("sets", .tup [.tup [.str "m", .str "by", .int (1)]]), ("tells", .tup [])], .ins "Deed" [("name", .str "rest"), ("needs", .tup []), ("sets", .tup [.tup [.str "a", .str "to", .int (0)], .tup [.str "m", .str "back", .int (0)]]), ("tells", .tup [])]])
def st_tail_14_1 : KS := ([none, none, some (.int (3)), some (.obj 0), some (.obj 1), none, some (.obj 2), some (.obj 3)], [.ins "Deed" [("name", .str "book"), ("needs", .tup [.tup [.str "a", .int (0)]]), ("sets", .tup [.tup [.str "a", .str "to", .int (1)]]), ("tells", .tup [.str "m"])], .ins "World" [("cells", .tup [.tup [.str "m", .int (3)], .tup [.str "a", .int (2)]]), ("deeds", .tup [.obj 0, .obj 2, .obj 3])], .ins "Deed" [("name", .str "pay"), ("needs", .tup []), ("sets", .tup [.tup [.str "m", .str "by", .int (2)]]), ("tells", .tup [])], .ins "Deed" [("name", .str "rest"), ("needs", .tup []), ("sets", .tup [.tup [.str "a", .str "to", .int (0)], .tup [.str "m", .str "back", .int (0)]]), ("tells", .tup [])]])
def st_tail_14_2 : KS := ([none, none, some (.int (4)), some (.obj 0), some (.obj 1), none, some (.obj 2), some (.obj 3)], [.ins "Deed" [("name", .str "book"), ("needs", .tup [.tup [.str "a", .int (0)]]), ("sets", .tup [.tup [.str "a", .str "to", .int (1)]]), ("tells", .tup [.str "m"])], .ins "World" [("cells", .tup [.tup [.str "m", .int (4)], .tup [.str "a", .int (2)]]), ("deeds", .tup [.obj 0, .obj 2, .obj 3])], .ins "Deed" [("name", .str "pay"), ("needs", .tup []), ("sets", .tup [.tup [.str "m", .str "by", .int (3)]]), ("tells", .tup [])], .ins "Deed" [("name", .str "rest"), ("needs", .tup []), ("sets", .tup [.tup [.str "a", .str "to", .int (0)], .tup [.str "m", .str "back", .int (0)]]), ("tells", .tup [])]])
def st_tail_14 : List KS := [st_tail_14_0, st_tail_14_1, st_tail_14_2]
theorem ok_tail_13_0 : stageL c_tail_13 [0, 1, 2, 3] st_tail_13_0 st_tail_14_0 = true := by decide +kernel
theorem ok_tail_13_1 : stageL c_tail_13 [0, 1, 2, 3] st_tail_13_1 st_tail_14_1 = true := by decide +kernel
theorem ok_tail_13_2 : stageL c_tail_13 [0, 1, 2, 3] st_tail_13_2 st_tail_14_2 = true := by decide +kernel
theorem ok_tail_13 : AllSt (stageL c_tail_13) st_tail_13 st_tail_14 := AllSt.cons ok_tail_13_0 (AllSt.cons ok_tail_13_1 (AllSt.cons ok_tail_13_2 (AllSt.nil)))
def st_tail_15_0 : KS := ([none, none, some (.int (2)), some (.obj 0), some (.obj 1), some (.obj 4), some (.obj 2), some (.obj 3)], [.ins "Deed" [("name", .str "book"), ("needs", .tup [.tup [.str "a", .int (0)]]), ("sets", .tup [.tup [.str "a", .str "to", .int (1)]]), ("tells", .tup [.str "m"])], .ins "World" [("cells", .tup [.tup [.str "m", .int (2)], .tup [.str "a", .int (2)]]), ("deeds", .tup [.obj 0, .obj 2, .obj 3])], .ins "Deed" [("name", .str "pay"), ("needs", .tup []), ("sets", .tup [.tup [.str "m", .str "by", .int (1)]]), ("tells", .tup [])], .ins "Deed" [("name", .str "rest"), ("needs", .tup []), ("sets", .tup [.tup [.str "a", .str "to", .int (0)], .tup [.str "m", .str "back", .int (0)]]), ("tells", .tup [])], .ins "Deed" [("name", .str "two"), ("needs", .tup [.tup [.str "a", .int (0)], .tup [.str "bb", .int (1)]]), ("sets", .tup []), ("tells", .tup [.str "a", .str "bb"])]])
def st_tail_15_1 : KS := ([none, none, some (.int (3)), some (.obj 0), some (.obj 1), some (.obj 4), some (.obj 2), some (.obj 3)], [.ins "Deed" [("name", .str "book"), ("needs", .tup [.tup [.str "a", .int (0)]]), ("sets", .tup [.tup [.str "a", .str "to", .int (1)]]), ("tells", .tup [.str "m"])], .ins "World" [("cells", .tup [.tup [.str "m", .int (3)], .tup [.str "a", .int (2)]]), ("deeds", .tup [.obj 0, .obj 2, .obj 3])], .ins "Deed" [("name", .str "pay"), ("needs", .tup []), ("sets", .tup [.tup [.str "m", .str "by", .int (2)]]), ("tells", .tup [])], .ins "Deed" [("name", .str "rest"), ("needs", .tup []), ("sets", .tup [.tup [.str "a", .str "to", .int (0)], .tup [.str "m", .str "back", .int (0)]]), ("tells", .tup [])], .ins "Deed" [("name", .str "two"), ("needs", .tup [.tup [.str "a", .int (0)], .tup [.str "bb", .int (1)]]), ("sets", .tup []), ("tells", .tup [.str "a", .str "bb"])]])
def st_tail_15_2 : KS := ([none, none, some (.int (4)), some (.obj 0), some (.obj 1), some (.obj 4), some (.obj 2), some (.obj 3)], [.ins "Deed" [("name", .str "book"), ("needs", .tup [.tup [.str "a", .int (0)]]), ("sets", .tup [.tup [.str "a", .str "to", .int (1)]]), ("tells", .tup [.str "m"])], .ins "World" [("cells", .tup [.tup [.str "m", .int (4)], .tup [.str "a", .int (2)]]), ("deeds", .tup [.obj 0, .obj 2, .obj 3])], .ins "Deed" [("name", .str "pay"), ("needs", .tup []), ("sets", .tup [.tup [.str "m", .str "by", .int (3)]]), ("tells", .tup [])], .ins "Deed" [("name", .str "rest"), ("needs", .tup []), ("sets", .tup [.tup [.str "a", .str "to", .int (0)], .tup [.str "m", .str "back", .int (0)]]), ("tells", .tup [])], .ins "Deed" [("name", .str "two"), ("needs", .tup [.tup [.str "a", .int (0)], .tup [.str "bb", .int (1)]]), ("sets", .tup []), ("tells", .tup [.str "a", .str "bb"])]])
def st_tail_15 : List KS := [st_tail_15_0, st_tail_15_1, st_tail_15_2]
theorem ok_tail_14_0 : stageL c_tail_14 [0, 1, 2, 3, 6] st_tail_14_0 st_tail_15_0 = true := by decide +kernel
theorem ok_tail_14_1 : stageL c_tail_14 [0, 1, 2, 3, 6] st_tail_14_1 st_tail_15_1 = true := by decide +kernel
theorem ok_tail_14_2 : stageL c_tail_14 [0, 1, 2, 3, 6] st_tail_14_2 st_tail_15_2 = true := by decide +kernel
theorem ok_tail_14 : AllSt (stageL c_tail_14) st_tail_14 st_tail_15 := AllSt.cons ok_tail_14_0 (AllSt.cons ok_tail_14_1 (AllSt.cons ok_tail_14_2 (AllSt.nil)))
def st_tail_16_0 : KS := ([none, none, some (.int (2)), some (.obj 0), some (.obj 1), some (.obj 4), some (.obj 2), some (.obj 3)], [.ins "Deed" [("name", .str "book"), ("needs", .tup [.tup [.str "a", .int (0)]]), ("sets", .tup [.tup [.str "a", .str "to", .int (1)]]), ("tells", .tup [.str "m"])], .ins "World" [("cells", .tup [.tup [.str "m", .int (2)], .tup [.str "a", .int (2)]]), ("deeds", .tup [.obj 0, .obj 2, .obj 3])], .ins "Deed" [("name", .str "pay"), ("needs", .tup []), ("sets", .tup [.tup [.str "m", .str "by", .int (1)]]), ("tells", .tup [])], .ins "Deed" [("name", .str "rest"), ("needs", .tup []), ("sets", .tup [.tup [.str "a", .str "to", .int (0)], .tup [.str "m", .str "back", .int (0)]]), ("tells", .tup [])], .ins "Deed" [("name", .str "two"), ("needs", .tup [.tup [.str "a", .int (0)], .tup [.str "bb", .int (1)]]), ("sets", .tup []), ("tells", .tup [.str "a", .str "bb"])]])
def st_tail_16_1 : KS := ([none, none, some (.int (3)), some (.obj 0), some (.obj 1), some (.obj 4), some (.obj 2), some (.obj 3)], [.ins "Deed" [("name", .str "book"), ("needs", .tup [.tup [.str "a", .int (0)]]), ("sets", .tup [.tup [.str "a", .str "to", .int (1)]]), ("tells", .tup [.str "m"])], .ins "World" [("cells", .tup [.tup [.str "m", .int (3)], .tup [.str "a", .int (2)]]), ("deeds", .tup [.obj 0, .obj 2, .obj 3])], .ins "Deed" [("name", .str "pay"), ("needs", .tup []), ("sets", .tup [.tup [.str "m", .str "by", .int (2)]]), ("tells", .tup [])], .ins "Deed" [("name", .str "rest"), ("needs", .tup []), ("sets", .tup [.tup [.str "a", .str "to", .int (0)], .tup [.str "m", .str "back", .int (0)]]), ("tells", .tup [])], .ins "Deed" [("name", .str "two"), ("needs", .tup [.tup [.str "a", .int (0)], .tup [.str "bb", .int (1)]]), ("sets", .tup []), ("tells", .tup [.str "a", .str "bb"])]])
def st_tail_16_2 : KS := ([none, none, some (.int (4)), some (.obj 0), some (.obj 1), some (.obj 4), some (.obj 2), some (.obj 3)], [.ins "Deed" [("name", .str "book"), ("needs", .tup [.tup [.str "a", .int (0)]]), ("sets", .tup [.tup [.str "a", .str "to", .int (1)]]), ("tells", .tup [.str "m"])], .ins "World" [("cells", .tup [.tup [.str "m", .int (4)], .tup [.str "a", .int (2)]]), ("deeds", .tup [.obj 0, .obj 2, .obj 3])], .ins "Deed" [("name", .str "pay"), ("needs", .tup []), ("sets", .tup [.tup [.str "m", .str "by", .int (3)]]), ("tells", .tup [])], .ins "Deed" [("name", .str "rest"), ("needs", .tup []), ("sets", .tup [.tup [.str "a", .str "to", .int (0)], .tup [.str "m", .str "back", .int (0)]]), ("tells", .tup [])], .ins "Deed" [("name", .str "two"), ("needs", .tup [.tup [.str "a", .int (0)], .tup [.str "bb", .int (1)]]), ("sets", .tup []), ("tells", .tup [.str "a", .str "bb"])]])
def st_tail_16 : List KS := [st_tail_16_0, st_tail_16_1, st_tail_16_2]
theorem ok_tail_15_0 : stageL c_tail_15 [0, 1, 2, 3, 4] st_tail_15_0 st_tail_16_0 = true := by decide +kernel
theorem ok_tail_15_1 : stageL c_tail_15 [0, 1, 2, 3, 4] st_tail_15_1 st_tail_16_1 = true := by decide +kernel
theorem ok_tail_15_2 : stageL c_tail_15 [0, 1, 2, 3, 4] st_tail_15_2 st_tail_16_2 = true := by decide +kernel
theorem ok_tail_15 : AllSt (stageL c_tail_15) st_tail_15 st_tail_16 := AllSt.cons ok_tail_15_0 (AllSt.cons ok_tail_15_1 (AllSt.cons ok_tail_15_2 (AllSt.nil)))
theorem ig_tail_0 : IgS c_tail_0 := by
  unfold c_tail_0
  repeat' (first | exact ig_C | exact ig_var | exact ig_nil | exact igs_next | apply ig_cons | apply ig_op | apply ig_tup | apply ig_lst | apply ig_B | apply ig_call | apply ig_callK | apply ig_make | apply ig_makeK | apply ig_meth | apply ig_methK | apply ig_cmeth | apply ig_strO | apply ig_eqO | apply ig_alt | apply ig_altT | apply ig_test | apply ig_or | apply ig_and | apply ig_fld | apply ig_not | apply ig_tru | apply ig_notV | apply ig_andV | apply ig_orV | apply ig_neg | apply igs_seq | apply igs_asg | apply igs_par | apply igs_ret | apply igs_when | apply igs_drop)
theorem ig_tail_1 : IgS c_tail_1 := by
  unfold c_tail_1
  repeat' (first | exact ig_C | exact ig_var | exact ig_nil | exact igs_next | apply ig_cons | apply ig_op | apply ig_tup | apply ig_lst | apply ig_B | apply ig_call | apply ig_callK | apply ig_make | apply ig_makeK | apply ig_meth | apply ig_methK | apply ig_cmeth | apply ig_strO | apply ig_eqO | apply ig_alt | apply ig_altT | apply ig_test | apply ig_or | apply ig_and | apply ig_fld | apply ig_not | apply ig_tru | apply ig_notV | apply ig_andV | apply ig_orV | apply ig_neg | apply igs_seq | apply igs_asg | apply igs_par | apply igs_ret | apply igs_when | apply igs_drop)
theorem ig_tail_2 : IgS c_tail_2 := by
  unfold c_tail_2
  repeat' (first | exact ig_C | exact ig_var | exact ig_nil | exact igs_next | apply ig_cons | apply ig_op | apply ig_tup | apply ig_lst | apply ig_B | apply ig_call | apply ig_callK | apply ig_make | apply ig_makeK | apply ig_meth | apply ig_methK | apply ig_cmeth | apply ig_strO | apply ig_eqO | apply ig_alt | apply ig_altT | apply ig_test | apply ig_or | apply ig_and | apply ig_fld | apply ig_not | apply ig_tru | apply ig_notV | apply ig_andV | apply ig_orV | apply ig_neg | apply igs_seq | apply igs_asg | apply igs_par | apply igs_ret | apply igs_when | apply igs_drop)
theorem ig_tail_3 : IgS c_tail_3 := by
  unfold c_tail_3
  repeat' (first | exact ig_C | exact ig_var | exact ig_nil | exact igs_next | apply ig_cons | apply ig_op | apply ig_tup | apply ig_lst | apply ig_B | apply ig_call | apply ig_callK | apply ig_make | apply ig_makeK | apply ig_meth | apply ig_methK | apply ig_cmeth | apply ig_strO | apply ig_eqO | apply ig_alt | apply ig_altT | apply ig_test | apply ig_or | apply ig_and | apply ig_fld | apply ig_not | apply ig_tru | apply ig_notV | apply ig_andV | apply ig_orV | apply ig_neg | apply igs_seq | apply igs_asg | apply igs_par | apply igs_ret | apply igs_when | apply igs_drop)
theorem ig_tail_4 : IgS c_tail_4 := by
  unfold c_tail_4
  repeat' (first | exact ig_C | exact ig_var | exact ig_nil | exact igs_next | apply ig_cons | apply ig_op | apply ig_tup | apply ig_lst | apply ig_B | apply ig_call | apply ig_callK | apply ig_make | apply ig_makeK | apply ig_meth | apply ig_methK | apply ig_cmeth | apply ig_strO | apply ig_eqO | apply ig_alt | apply ig_altT | apply ig_test | apply ig_or | apply ig_and | apply ig_fld | apply ig_not | apply ig_tru | apply ig_notV | apply ig_andV | apply ig_orV | apply ig_neg | apply igs_seq | apply igs_asg | apply igs_par | apply igs_ret | apply igs_when | apply igs_drop)
theorem ig_tail_5 : IgS c_tail_5 := by
  unfold c_tail_5
  repeat' (first | exact ig_C | exact ig_var | exact ig_nil | exact igs_next | apply ig_cons | apply ig_op | apply ig_tup | apply ig_lst | apply ig_B | apply ig_call | apply ig_callK | apply ig_make | apply ig_makeK | apply ig_meth | apply ig_methK | apply ig_cmeth | apply ig_strO | apply ig_eqO | apply ig_alt | apply ig_altT | apply ig_test | apply ig_or | apply ig_and | apply ig_fld | apply ig_not | apply ig_tru | apply ig_notV | apply ig_andV | apply ig_orV | apply ig_neg | apply igs_seq | apply igs_asg | apply igs_par | apply igs_ret | apply igs_when | apply igs_drop)
theorem ig_tail_6 : IgS c_tail_6 := by
  unfold c_tail_6
  repeat' (first | exact ig_C | exact ig_var | exact ig_nil | exact igs_next | apply ig_cons | apply ig_op | apply ig_tup | apply ig_lst | apply ig_B | apply ig_call | apply ig_callK | apply ig_make | apply ig_makeK | apply ig_meth | apply ig_methK | apply ig_cmeth | apply ig_strO | apply ig_eqO | apply ig_alt | apply ig_altT | apply ig_test | apply ig_or | apply ig_and | apply ig_fld | apply ig_not | apply ig_tru | apply ig_notV | apply ig_andV | apply ig_orV | apply ig_neg | apply igs_seq | apply igs_asg | apply igs_par | apply igs_ret | apply igs_when | apply igs_drop)
theorem ig_tail_7 : IgS c_tail_7 := by
  unfold c_tail_7
  repeat' (first | exact ig_C | exact ig_var | exact ig_nil | exact igs_next | apply ig_cons | apply ig_op | apply ig_tup | apply ig_lst | apply ig_B | apply ig_call | apply ig_callK | apply ig_make | apply ig_makeK | apply ig_meth | apply ig_methK | apply ig_cmeth | apply ig_strO | apply ig_eqO | apply ig_alt | apply ig_altT | apply ig_test | apply ig_or | apply ig_and | apply ig_fld | apply ig_not | apply ig_tru | apply ig_notV | apply ig_andV | apply ig_orV | apply ig_neg | apply igs_seq | apply igs_asg | apply igs_par | apply igs_ret | apply igs_when | apply igs_drop)
theorem ig_tail_8 : IgS c_tail_8 := by
  unfold c_tail_8
  repeat' (first | exact ig_C | exact ig_var | exact ig_nil | exact igs_next | apply ig_cons | apply ig_op | apply ig_tup | apply ig_lst | apply ig_B | apply ig_call | apply ig_callK | apply ig_make | apply ig_makeK | apply ig_meth | apply ig_methK | apply ig_cmeth | apply ig_strO | apply ig_eqO | apply ig_alt | apply ig_altT | apply ig_test | apply ig_or | apply ig_and | apply ig_fld | apply ig_not | apply ig_tru | apply ig_notV | apply ig_andV | apply ig_orV | apply ig_neg | apply igs_seq | apply igs_asg | apply igs_par | apply igs_ret | apply igs_when | apply igs_drop)
theorem ig_tail_9 : IgS c_tail_9 := by
  unfold c_tail_9
  repeat' (first | exact ig_C | exact ig_var | exact ig_nil | exact igs_next | apply ig_cons | apply ig_op | apply ig_tup | apply ig_lst | apply ig_B | apply ig_call | apply ig_callK | apply ig_make | apply ig_makeK | apply ig_meth | apply ig_methK | apply ig_cmeth | apply ig_strO | apply ig_eqO | apply ig_alt | apply ig_altT | apply ig_test | apply ig_or | apply ig_and | apply ig_fld | apply ig_not | apply ig_tru | apply ig_notV | apply ig_andV | apply ig_orV | apply ig_neg | apply igs_seq | apply igs_asg | apply igs_par | apply igs_ret | apply igs_when | apply igs_drop)
theorem ig_tail_10 : IgS c_tail_10 := by
  unfold c_tail_10
  repeat' (first | exact ig_C | exact ig_var | exact ig_nil | exact igs_next | apply ig_cons | apply ig_op | apply ig_tup | apply ig_lst | apply ig_B | apply ig_call | apply ig_callK | apply ig_make | apply ig_makeK | apply ig_meth | apply ig_methK | apply ig_cmeth | apply ig_strO | apply ig_eqO | apply ig_alt | apply ig_altT | apply ig_test | apply ig_or | apply ig_and | apply ig_fld | apply ig_not | apply ig_tru | apply ig_notV | apply ig_andV | apply ig_orV | apply ig_neg | apply igs_seq | apply igs_asg | apply igs_par | apply igs_ret | apply igs_when | apply igs_drop)
theorem ig_tail_11 : IgS c_tail_11 := by
  unfold c_tail_11
  repeat' (first | exact ig_C | exact ig_var | exact ig_nil | exact igs_next | apply ig_cons | apply ig_op | apply ig_tup | apply ig_lst | apply ig_B | apply ig_call | apply ig_callK | apply ig_make | apply ig_makeK | apply ig_meth | apply ig_methK | apply ig_cmeth | apply ig_strO | apply ig_eqO | apply ig_alt | apply ig_altT | apply ig_test | apply ig_or | apply ig_and | apply ig_fld | apply ig_not | apply ig_tru | apply ig_notV | apply ig_andV | apply ig_orV | apply ig_neg | apply igs_seq | apply igs_asg | apply igs_par | apply igs_ret | apply igs_when | apply igs_drop)
theorem ig_tail_12 : IgS c_tail_12 := by
  unfold c_tail_12
  repeat' (first | exact ig_C | exact ig_var | exact ig_nil | exact igs_next | apply ig_cons | apply ig_op | apply ig_tup | apply ig_lst | apply ig_B | apply ig_call | apply ig_callK | apply ig_make | apply ig_makeK | apply ig_meth | apply ig_methK | apply ig_cmeth | apply ig_strO | apply ig_eqO | apply ig_alt | apply ig_altT | apply ig_test | apply ig_or | apply ig_and | apply ig_fld | apply ig_not | apply ig_tru | apply ig_notV | apply ig_andV | apply ig_orV | apply ig_neg | apply igs_seq | apply igs_asg | apply igs_par | apply igs_ret | apply igs_when | apply igs_drop)
theorem ig_tail_13 : IgS c_tail_13 := by
  unfold c_tail_13
  repeat' (first | exact ig_C | exact ig_var | exact ig_nil | exact igs_next | apply ig_cons | apply ig_op | apply ig_tup | apply ig_lst | apply ig_B | apply ig_call | apply ig_callK | apply ig_make | apply ig_makeK | apply ig_meth | apply ig_methK | apply ig_cmeth | apply ig_strO | apply ig_eqO | apply ig_alt | apply ig_altT | apply ig_test | apply ig_or | apply ig_and | apply ig_fld | apply ig_not | apply ig_tru | apply ig_notV | apply ig_andV | apply ig_orV | apply ig_neg | apply igs_seq | apply igs_asg | apply igs_par | apply igs_ret | apply igs_when | apply igs_drop)
theorem ig_tail_14 : IgS c_tail_14 := by
  unfold c_tail_14
  repeat' (first | exact ig_C | exact ig_var | exact ig_nil | exact igs_next | apply ig_cons | apply ig_op | apply ig_tup | apply ig_lst | apply ig_B | apply ig_call | apply ig_callK | apply ig_make | apply ig_makeK | apply ig_meth | apply ig_methK | apply ig_cmeth | apply ig_strO | apply ig_eqO | apply ig_alt | apply ig_altT | apply ig_test | apply ig_or | apply ig_and | apply ig_fld | apply ig_not | apply ig_tru | apply ig_notV | apply ig_andV | apply ig_orV | apply ig_neg | apply igs_seq | apply igs_asg | apply igs_par | apply igs_ret | apply igs_when | apply igs_drop)
theorem ig_tail_15 : IgS c_tail_15 := by
  unfold c_tail_15
  repeat' (first | exact ig_C | exact ig_var | exact ig_nil | exact igs_next | apply ig_cons | apply ig_op | apply ig_tup | apply ig_lst | apply ig_B | apply ig_call | apply ig_callK | apply ig_make | apply ig_makeK | apply ig_meth | apply ig_methK | apply ig_cmeth | apply ig_strO | apply ig_eqO | apply ig_alt | apply ig_altT | apply ig_test | apply ig_or | apply ig_and | apply ig_fld | apply ig_not | apply ig_tru | apply ig_notV | apply ig_andV | apply ig_orV | apply ig_neg | apply igs_seq | apply igs_asg | apply igs_par | apply igs_ret | apply igs_when | apply igs_drop)
theorem b_tail {f : Addr} (g : Gf K mg) (F_Deed___eq__ : Has P w K mg base 6 ("Deed", some "__eq__") ["self", "other"] m_Deed___eq__) (Wk_Deed___init___1_tells_sets_needs_name : HasK P w K mg base 4 ("Deed", some "__init__") ["self", "name", "needs", "sets", "tells"] m_Deed___init__ 1 ["tells", "sets", "needs", "name"] (selA s_Wk_Deed___init___1_tells_sets_needs_name a_Deed___init__)) (Wk_Deed___init___4 : HasK P w K mg base 4 ("Deed", some "__init__") ["self", "name", "needs", "sets", "tells"] m_Deed___init__ 4 [] (selA s_Wk_Deed___init___4 a_Deed___init__)) (F_Deed___init__ : Has P w K mg base 4 ("Deed", some "__init__") ["self", "name", "needs", "sets", "tells"] m_Deed___init__) (F_Deed___str__ : Has P w K mg base 3 ("Deed", some "__str__") ["self"] m_Deed___str__) (Wc_Deed_read_1_text : HasC P w K mg base 6 "Deed" "read" ["cls", "text"] m_Deed_read 1 ["text"] (selA s_Wc_Deed_read_1_text a_Deed_read)) (Wk_World___init___1_deeds_cells : HasK P w K mg base 4 ("World", some "__init__") ["self", "cells", "deeds"] m_World___init__ 1 ["deeds", "cells"] (selA s_Wk_World___init___1_deeds_cells a_World___init__)) (F_World___init__ : Has P w K mg base 4 ("World", some "__init__") ["self", "cells", "deeds"] m_World___init__) (Wk_World_deed_1_name : HasK P w K mg base 1 ("World", some "deed") ["self", "name"] m_World_deed 1 ["name"] (selA s_Wk_World_deed_1_name a_World_deed)) (F_World_deed : Has P w K mg base 1 ("World", some "deed") ["self", "name"] m_World_deed) (F_World_scenes : Has P w K mg base 1 ("World", some "scenes") ["self"] m_World_scenes) (Wk_done_0_name_scene_world : HasK P w K mg base 4 ("done", none) ["world", "scene", "name", "old"] m_done 0 ["name", "scene", "world"] (selA s_Wk_done_0_name_scene_world a_done)) (Wk_done_3_old : HasK P w K mg base 4 ("done", none) ["world", "scene", "name", "old"] m_done 3 ["old"] (selA s_Wk_done_3_old a_done)) (Wk_done_3 : HasK P w K mg base 4 ("done", none) ["world", "scene", "name", "old"] m_done 3 [] (selA s_Wk_done_3 a_done)) (F_done : Has P w K mg base 4 ("done", none) ["world", "scene", "name", "old"] m_done) (Wk_told_0_answer_name_world : HasK P w K mg base 2 ("told", none) ["world", "name", "answer"] m_told 0 ["answer", "name", "world"] (selA s_Wk_told_0_answer_name_world a_told)) (F_told : Has P w K mg base 2 ("told", none) ["world", "name", "answer"] m_told) (cdv : Value) (A : Around) (outer : List Env) (s : Shared) (H : Hp) (E : XK)
    (hr : Room 7 (A.deeper (envOfC "law" (defScope (top 41)) s.heap.objs.size f cdv))) :
    PSs (cxOf (L2.CX P w) P w K mg base N_law "law" (defScope (top 41)) f cdv A outer s H E) ((forBody ((defBody (top 41)).getD 0 (.Pass ⟨0, 0, 0, 0⟩))).drop 2) (tKL ⟨K, mg⟩ (opts.map fun o => (o, []))) := by
  have hp := passes_of (X := cxOf (L2.CX P w) P w K mg base N_law "law" (defScope (top 41)) f cdv A outer s H E) rfl
  have hx : Passes (L2.CX P w) (cxOf (L2.CX P w) P w K mg base N_law "law" (defScope (top 41)) f cdv A outer s H E) E := passes_call (takes_of rfl rfl rfl rfl) fun _ _ _ _ h => h
  have ht : Takes (cxOf (L2.CX P w) P w K mg base N_law "law" (defScope (top 41)) f cdv A outer s H E) (fun cls d _ H => E cls d H) := takes_of rfl rfl rfl rfl
  exact (ql_cons (E := E) (c := c_tail_0) (os := st_tail_0) (ps := st_tail_1) (s_set 4 sc_law.nd (x_makeK0 (ps := ["self", "name", "needs", "sets", "tells"]) (ks := ["tells", "sets", "needs", "name"]) Wk_Deed___init___1_tells_sets_needs_name hr (by decide) g.mk_Deed g.glo_Deed hx (k_cons (e_lst (a_cons e_str a_nil)) (k_cons (e_lst (a_cons (e_tup (a_cons e_str (a_cons e_str (a_cons e_int a_nil)))) a_nil)) (k_cons (e_lst (a_cons (e_tup (a_cons e_str (a_cons e_int a_nil))) a_nil)) (k_cons e_str k_nil))))))
  (ql_cons (E := E) (c := c_tail_1) (os := st_tail_1) (ps := st_tail_2) (s_par 7 8 rfl sc_law.nd (a_cons (x_makeN (ps := ["self", "name", "needs", "sets", "tells"]) (ks := []) Wk_Deed___init___4 hr (by decide) g.mk_Deed g.glo_Deed hx (a_cons e_str (a_cons (e_tup a_nil) (a_cons (e_lst (a_cons (e_tup (a_cons e_str (a_cons e_str (a_cons (x_sub (e_var 3) e_int) a_nil)))) a_nil)) a_nil))) k_nil) (a_cons (x_makeN (ps := ["self", "name", "needs", "sets", "tells"]) (ks := []) Wk_Deed___init___4 hr (by decide) g.mk_Deed g.glo_Deed hx (a_cons e_str (a_cons (e_tup a_nil) (a_cons (e_lst (a_cons (e_tup (a_cons e_str (a_cons e_str (a_cons e_int a_nil)))) (a_cons (e_tup (a_cons e_str (a_cons e_str (a_cons e_int a_nil)))) a_nil))) a_nil))) k_nil) a_nil)))
  (ql_cons (E := E) (c := c_tail_2) (os := st_tail_2) (ps := st_tail_3) (s_set 5 sc_law.nd (x_makeK0 (ps := ["self", "cells", "deeds"]) (ks := ["deeds", "cells"]) Wk_World___init___1_deeds_cells hr (by decide) g.mk_World g.glo_World hx (k_cons (e_lst (a_cons (e_var 4) (a_cons (e_var 7) (a_cons (e_var 8) a_nil)))) (k_cons (e_lst (a_cons (e_tup (a_cons e_str (a_cons (e_var 3) a_nil))) (a_cons (e_tup (a_cons e_str (a_cons e_int a_nil))) a_nil))) k_nil))))
  (ql_cons (E := E) (c := c_tail_3) (os := st_tail_3) (ps := st_tail_4) (s_if (y_cmp (b_ne hr) (x_callK0 (ps := ["world", "scene", "name", "old"]) (ks := ["name", "scene", "world"]) Wk_done_0_name_scene_world hr (by decide) (g.glo_done) hx (k_cons e_str (k_cons (e_tup (a_cons (x_sub (e_var 3) e_int) (a_cons e_int a_nil))) (k_cons (e_var 5) k_nil)))) (e_tup (a_cons (x_add e_str (e_callTy (x := "str") cr_strAll ca_strAll (by rfl) (g.free_str) PyProof.Rows.boot_str (a_cons (x_sub (e_var 3) e_int) a_nil))) (a_cons (e_tup (a_cons (x_sub (e_var 3) e_int) (a_cons e_int a_nil))) a_nil)))) (s_one (s_ret e_bl)) s_nil)
  (ql_cons (E := E) (c := c_tail_4) (os := st_tail_4) (ps := st_tail_5) (s_if (PW.pt (w_or (y_cmp (b_ne hr) (x_callN (ps := ["world", "scene", "name", "old"]) (ks := []) Wk_done_3 hr (by decide) (g.glo_done) hx (a_cons (e_var 5) (a_cons (e_tup (a_cons e_int (a_cons e_int a_nil))) (a_cons e_str a_nil))) k_nil) (e_tup (a_cons e_str (a_cons (e_tup (a_cons e_int (a_cons e_int a_nil))) a_nil)))) (pw_or1 (y_cmp (b_ne hr) (x_callN (ps := ["world", "scene", "name", "old"]) (ks := []) Wk_done_3 hr (by decide) (g.glo_done) hx (a_cons (e_var 5) (a_cons (e_tup (a_cons e_int (a_cons e_int a_nil))) (a_cons e_str a_nil))) k_nil) (e_tup (a_cons e_str (a_cons (e_tup (a_cons (x_sub (e_var 3) e_int) (a_cons e_int a_nil))) a_nil))))))) (s_one (s_ret e_bl)) s_nil)
  (ql_cons (E := E) (c := c_tail_5) (os := st_tail_5) (ps := st_tail_6) (s_if (y_cmp (b_ne hr) (x_callN (ps := ["world", "scene", "name", "old"]) (ks := []) Wk_done_3 hr (by decide) (g.glo_done) hx (a_cons (e_var 5) (a_cons (e_tup (a_cons (x_sub (e_var 3) e_int) (a_cons e_int a_nil))) (a_cons e_str a_nil))) k_nil) (e_tup (a_cons e_str (a_cons (e_tup (a_cons (x_mod (e_callTy (x := "int") call_int ca_int (by rfl) (g.free_int) PyProof.Rows.boot_int (a_cons (x_sub (x_mul e_int (e_var 3)) e_int) a_nil)) (e_var 3)) (a_cons e_int a_nil))) a_nil)))) (s_one (s_ret e_bl)) s_nil)
  (ql_cons (E := E) (c := c_tail_6) (os := st_tail_6) (ps := st_tail_7) (s_if (y_cmp (b_ne hr) (x_callN (ps := ["world", "scene", "name", "old"]) (ks := []) Wk_done_3 hr (by decide) (g.glo_done) hx (a_cons (e_var 5) (a_cons (e_tup (a_cons e_int (a_cons e_int a_nil))) (a_cons e_str a_nil))) k_nil) (e_tup (a_cons e_str (a_cons (e_tup (a_cons e_int (a_cons e_int a_nil))) a_nil)))) (s_one (s_ret e_bl)) s_nil)
  (ql_cons (E := E) (c := c_tail_7) (os := st_tail_7) (ps := st_tail_8) (s_if (y_cmp (b_ne hr) (x_callN (ps := ["world", "scene", "name", "old"]) (ks := ["old"]) Wk_done_3_old hr (by decide) (g.glo_done) hx (a_cons (e_var 5) (a_cons (e_tup (a_cons e_int (a_cons e_int a_nil))) (a_cons e_str a_nil))) (k_cons (e_lst (a_cons (e_tup (a_cons e_str (a_cons e_int a_nil))) a_nil)) k_nil)) (e_tup (a_cons e_str (a_cons (e_tup (a_cons e_int (a_cons e_int a_nil))) a_nil)))) (s_one (s_ret e_bl)) s_nil)
  (ql_cons (E := E) (c := c_tail_8) (os := st_tail_8) (ps := st_tail_9) (s_if (y_cmp (b_ne hr) (x_call (ps := ["world", "scene", "name", "old"]) (F_done) hr (by decide) (g.glo_done) hx (a_cons (e_var 5) (a_cons (e_tup (a_cons e_int (a_cons e_int a_nil))) (a_cons e_str (a_cons (e_tup (a_cons (e_tup (a_cons e_str (a_cons e_int a_nil))) (a_cons (e_tup (a_cons e_str (a_cons e_int a_nil))) a_nil))) a_nil))))) (e_tup (a_cons e_str (a_cons (e_tup (a_cons e_int (a_cons e_int a_nil))) a_nil)))) (s_one (s_ret e_bl)) s_nil)
  (ql_cons (E := E) (c := c_tail_9) (os := st_tail_9) (ps := st_tail_10) (s_if (PW.pt (w_or (y_cmp (b_ne hr) (x_callK0 (ps := ["world", "name", "answer"]) (ks := ["answer", "name", "world"]) Wk_told_0_answer_name_world hr (by decide) (g.glo_told) hx (k_cons e_str (k_cons e_str (k_cons (e_var 5) k_nil)))) (e_tup (a_cons (e_tup (a_cons e_str (a_cons e_int a_nil))) a_nil))) (pw_or1 (y_cmp (b_ne hr) (x_call (ps := ["world", "name", "answer"]) (F_told) hr (by decide) (g.glo_told) hx (a_cons (e_var 5) (a_cons e_str (a_cons e_str a_nil)))) (e_tup a_nil))))) (s_one (s_ret e_bl)) s_nil)
  (ql_cons (E := E) (c := c_tail_10) (os := st_tail_10) (ps := st_tail_11) (s_if (PW.pt (w_or (y_cmp (b_ne hr) (x_call (ps := ["world", "name", "answer"]) (F_told) hr (by decide) (g.glo_told) hx (a_cons (e_var 5) (a_cons e_str (a_cons e_str a_nil)))) (e_tup (a_cons (e_tup (a_cons e_str (a_cons e_int a_nil))) a_nil))) (pw_or1 (y_cmp (b_ne hr) (x_call (ps := ["world", "name", "answer"]) (F_told) hr (by decide) (g.glo_told) hx (a_cons (e_var 5) (a_cons e_str (a_cons e_str a_nil)))) (e_tup a_nil))))) (s_one (s_ret e_bl)) s_nil)
  (ql_cons (E := E) (c := c_tail_11) (os := st_tail_11) (ps := st_tail_12) (s_if (y_cmp (b_ne hr) (x_call (ps := ["world", "name", "answer"]) (F_told) hr (by decide) (g.glo_told) hx (a_cons (e_var 5) (a_cons e_str (a_cons e_str a_nil)))) (e_tup a_nil)) (s_one (s_ret e_bl)) s_nil)
  (ql_cons (E := E) (c := c_tail_12) (os := st_tail_12) (ps := st_tail_13) (s_if (y_neO F_Deed___eq__ hr (by decide) g.oeq_Deed g.glo_Deed hx (x_methK0 (ps := ["self", "name"]) (ks := ["name"]) Wk_World_deed_1_name hr (by decide) g.cls_World g.meth_World_deed g.glo_World hx (e_var 5) (k_cons e_str k_nil)) (x_cmethK0 (ps := ["cls", "text"]) (ks := ["text"]) Wc_Deed_read_1_text hr (by decide) g.cm_Deed_read g.glo_Deed hx (k_cons e_str k_nil))) (s_one (s_ret e_bl)) s_nil)
  (ql_cons (E := E) (c := c_tail_13) (os := st_tail_13) (ps := st_tail_14) (s_if (PW.pt (w_or (y_cmp (b_ne hr) (x_strO F_Deed___str__ hr (by decide) g.ostr_Deed g.glo_Deed g.free_str hx (x_meth (ps := ["self", "name"]) F_World_deed hr (by decide) g.cls_World g.meth_World_deed g.glo_World hx (e_var 5) (a_cons e_str a_nil))) e_str) (pw_or1 (y_cmp (b_ne hr) (e_callB (x := "len") call_lenAll ca_len (by rfl) (g.free_len) PySem.boot_len (a_cons (x_meth0 (ps := ["self"]) F_World_scenes hr (by decide) g.cls_World g.meth_World_scenes g.glo_World hx (e_var 5)) a_nil)) (x_mul e_int (e_var 3)))))) (s_one (s_ret e_bl)) s_nil)
  (ql_cons (E := E) (c := c_tail_14) (os := st_tail_14) (ps := st_tail_15) (s_set 6 sc_law.nd (x_make (ps := ["self", "name", "needs", "sets", "tells"]) F_Deed___init__ hr (by decide) g.mk_Deed g.glo_Deed hx (a_cons e_str (a_cons (e_lst (a_cons (e_tup (a_cons e_str (a_cons e_int a_nil))) (a_cons (e_tup (a_cons e_str (a_cons e_int a_nil))) a_nil))) (a_cons (e_tup a_nil) (a_cons (e_lst (a_cons e_str (a_cons e_str a_nil))) a_nil))))))
  (ql_cons (E := E) (c := c_tail_15) (os := st_tail_15) (ps := st_tail_16) (s_if (y_cmp (b_ne hr) (x_callN (ps := ["world", "scene", "name", "old"]) (ks := []) Wk_done_3 hr (by decide) (g.glo_done) hx (a_cons (x_make (ps := ["self", "cells", "deeds"]) F_World___init__ hr (by decide) g.mk_World g.glo_World hx (a_cons (e_lst (a_cons (e_tup (a_cons e_str (a_cons e_int a_nil))) (a_cons (e_tup (a_cons e_str (a_cons e_int a_nil))) a_nil))) (a_cons (e_lst (a_cons (e_var 6) a_nil)) a_nil))) (a_cons (e_tup (a_cons e_int (a_cons e_int a_nil))) (a_cons e_str a_nil))) k_nil) (e_tup (a_cons e_str (a_cons (e_tup (a_cons e_int (a_cons e_int a_nil))) a_nil)))) (s_one (s_ret e_bl)) s_nil)
  ql_nil ig_tail_15 ok_tail_15) ig_tail_14 ok_tail_14) ig_tail_13 ok_tail_13) ig_tail_12 ok_tail_12) ig_tail_11 ok_tail_11) ig_tail_10 ok_tail_10) ig_tail_9 ok_tail_9) ig_tail_8 ok_tail_8) ig_tail_7 ok_tail_7) ig_tail_6 ok_tail_6) ig_tail_5 ok_tail_5) ig_tail_4 ok_tail_4) ig_tail_3 ok_tail_3) ig_tail_2 ok_tail_2) ig_tail_1 ok_tail_1) ig_tail_0 ok_tail_0)
def N__law_deal : List Str := ["_law_script", "_law_base", "_law_stirred", "_law_cells", "_law_cell"]
theorem sc__law_deal : FnScope N__law_deal ["_law_script", "_law_base"] (defScope (top 37)) := ⟨rfl, rfl, rfl, by decide +kernel, rfl, by decide +kernel, by decide +kernel⟩
def c__law_deal : CS :=
  (cSeq (cAsg (cOp addM (cC (.int 86028157)) (cOp mulM (cC (.int 47)) (cVar 1))) (gNam 2))
  (cSeq (cAsg (cLc (iAny (cSl (cVar 0) (cPart (cVar 1)) (cPart (cC (.int 58))))) (gNam 4) cYes (cB absM (caCons (cB intM (caCons (cVar 4) caNil)) caNil)) [4]) (gNam 3))
  (cSeq (cFor (iAny (cVar 3)) (gNam 4) (cAsg (cOp modM (cB intM (caCons (cOp addM (cOp addM (cOp mulM (cVar 2) (cC (.int 48271))) (cOp modM (cB intM (caCons (cVar 4) caNil)) (cC (.int 2147483477)))) (cC (.int 13))) caNil)) (cC (.int 2147483647))) (gNam 2)))
  (cRet (cLst (caCons (cRevL (cLc (iAny (cVar 3)) (gNam 4) (cTest (cOp (cmpM fun i j => decide (j ≤ i)) (cVar 4) (cOp powM (cC (.int 10)) (cC (.int 18))))) (cVar 4) [4])) (caCons (cVar 2) caNil)))))))
def m__law_deal : List AV → CM AV := cFn 5 c__law_deal
def a__law_deal : List AV := []
theorem b__law_deal {f : Addr} (g : Gf K mg) (cdv : Value) (A : Around) (outer : List Env) (s : Shared) (H : Hp) (E : XK)
    (hr : Room 0 (A.deeper (envOfC "_law_deal" (defScope (top 37)) s.heap.objs.size f cdv))) :
    PSs (cxOf (L2.CX P w) P w K mg base N__law_deal "_law_deal" (defScope (top 37)) f cdv A outer s H E) (defBody (top 37)) (tS ⟨K, mg⟩ E c__law_deal) := by
  have hp := passes_of (X := cxOf (L2.CX P w) P w K mg base N__law_deal "_law_deal" (defScope (top 37)) f cdv A outer s H E) rfl
  have hx : Passes (L2.CX P w) (cxOf (L2.CX P w) P w K mg base N__law_deal "_law_deal" (defScope (top 37)) f cdv A outer s H E) E := passes_call (takes_of rfl rfl rfl rfl) fun _ _ _ _ h => h
  have ht : Takes (cxOf (L2.CX P w) P w K mg base N__law_deal "_law_deal" (defScope (top 37)) f cdv A outer s H E) (fun cls d _ H => E cls d H) := takes_of rfl rfl rfl rfl
  exact (s_cons (s_set 2 sc__law_deal.nd (x_add e_int (x_mul e_int (e_var 1))))
  (s_cons (by (refine s_setLc (own := [("_law_cell", 4)]) 3 rfl sc__law_deal.nd ?a ?b ?c ?d ?e ?f ?g ?h); (case a => rfl); (case b => rfl); (case c => rfl); (case d => exact (i_any (e_sl (e_var 0) (o_some (e_var 1)) (o_some e_int)))); (case e => exact blkOk_by (N := N__law_deal) (sc := defScope (top 37)) (own := [("_law_cell", 4)]) (by decide +kernel)); (case f => intro _ _ _ _ _; exact (h_name 4 (by decide) sc__law_deal.nd)); (case g => intro _ _ _ _ _; exact ts_nil); (case h => intro _ _ _ _ _; exact (e_callB (x := "abs") L2.call_abs ca_abs (by rfl) (g.free_abs) PyProof.Rows.boot_abs (a_cons (e_callTy (x := "int") call_int ca_int (by rfl) (g.free_int) PyProof.Rows.boot_int (a_cons (e_var 4) a_nil)) a_nil))))
  (s_cons (s_for hp rfl (i_any (e_var 3)) (g_of (S := [4]) (h_name 4 (by decide) sc__law_deal.nd)) (s_one (s_set 2 sc__law_deal.nd (x_mod (e_callTy (x := "int") call_int ca_int (by rfl) (g.free_int) PyProof.Rows.boot_int (a_cons (x_add (x_add (x_mul (e_var 2) e_int) (x_mod (e_callTy (x := "int") call_int ca_int (by rfl) (g.free_int) PyProof.Rows.boot_int (a_cons (e_var 4) a_nil)) e_int)) e_int) a_nil)) e_int))))
  (s_one (s_ret (e_lst (a_cons (e_turn (by (refine e_lc (own := [("_law_cell", 4)]) rfl sc__law_deal.nd ?d ?e ?f ?g ?h); (case d => exact (i_any (e_var 3))); (case e => exact blkOk_by (N := N__law_deal) (sc := defScope (top 37)) (own := [("_law_cell", 4)]) (by decide +kernel)); (case f => intro _ _ _ _ _; exact (h_name 4 (by decide) sc__law_deal.nd)); (case g => intro _ _ _ _ _; exact (ts_one (y_cmp (b_ge) (e_var 4) (x_pow e_int e_int)))); (case h => intro _ _ _ _ _; exact (e_var 4)))) (a_cons (e_var 2) a_nil))))))))
def N__law_draw : List Str := ["_law_deal_here", "_law_bound", "_law_rest"]
theorem sc__law_draw : FnScope N__law_draw ["_law_deal_here", "_law_bound"] (defScope (top 38)) := ⟨rfl, rfl, rfl, by decide +kernel, rfl, by decide +kernel, by decide +kernel⟩
def c__law_draw : CS :=
  (cSeq (cWhile (cAnd (cTest (cOp (eqM true) (cOp idxDM (cVar 0) (cC (.int 0))) (cLst caNil))) (cTest (cOp (eqM false) (cOp idxDM (cOp idxDM (cVar 0) (cC (.int 0))) (cNeg (cC (.int 1)))) (cC (.int 0))))) (cDrop (cM "list" popM (cOp idxDM (cVar 0) (cC (.int 0))) caNil)))
  (cSeq (cWhen (cTest (cOp (eqM true) (cOp idxDM (cVar 0) (cC (.int 0))) (cLst caNil))) (cSeq (cAsg (cM "list" popM (cOp idxDM (cVar 0) (cC (.int 0))) caNil) (gNam 2))
  (cSeq (cDrop (cM "list" (appM) (cOp idxDM (cVar 0) (cC (.int 0))) (caCons (cOp fdivM (cVar 2) (cVar 1)) caNil)))
  (cRet (cOp modM (cB intM (caCons (cVar 2) caNil)) (cVar 1))))) cNext)
  (cSeq (cAsg (cOp modM (cB intM (caCons (cOp addM (cOp mulM (cOp idxDM (cVar 0) (cC (.int 1))) (cC (.int 48271))) (cC (.int 61))) caNil)) (cC (.int 2147483647))) (gIx (cVar 0) (cC (.int 1))))
  (cRet (cOp modM (cB intM (caCons (cOp fdivM (cOp idxDM (cVar 0) (cC (.int 1))) (cC (.int 32))) caNil)) (cVar 1))))))
def m__law_draw : List AV → CM AV := cFn 3 c__law_draw
def a__law_draw : List AV := []
theorem b__law_draw {f : Addr} (g : Gf K mg) (cdv : Value) (A : Around) (outer : List Env) (s : Shared) (H : Hp) (E : XK)
    (hr : Room 0 (A.deeper (envOfC "_law_draw" (defScope (top 38)) s.heap.objs.size f cdv))) :
    PSs (cxOf (L2.CX P w) P w K mg base N__law_draw "_law_draw" (defScope (top 38)) f cdv A outer s H E) (defBody (top 38)) (tS ⟨K, mg⟩ E c__law_draw) := by
  have hp := passes_of (X := cxOf (L2.CX P w) P w K mg base N__law_draw "_law_draw" (defScope (top 38)) f cdv A outer s H E) rfl
  have hx : Passes (L2.CX P w) (cxOf (L2.CX P w) P w K mg base N__law_draw "_law_draw" (defScope (top 38)) f cdv A outer s H E) E := passes_call (takes_of rfl rfl rfl rfl) fun _ _ _ _ h => h
  have ht : Takes (cxOf (L2.CX P w) P w K mg base N__law_draw "_law_draw" (defScope (top 38)) f cdv A outer s H E) (fun cls d _ H => E cls d H) := takes_of rfl rfl rfl rfl
  exact (s_cons (s_while hp (PW.pt (w_and (y_cmp (b_ne hr) (x_ix hr (e_var 0) e_int) (e_lst a_nil)) (pw_and1 (y_cmp (b_eq hr) (x_ix hr (x_ix hr (e_var 0) e_int) (e_neg e_int)) e_int)))) (s_one (s_expr (e_m0 PySem.F.plainAttrs_list PySem.F.slot_list_pop PySem.F.type_list_pop mt_pop ms_pop (x_ix hr (e_var 0) e_int)))))
  (s_cons (s_if (y_cmp (b_ne hr) (x_ix hr (e_var 0) e_int) (e_lst a_nil)) (s_cons (s_set 2 sc__law_draw.nd (e_m0 PySem.F.plainAttrs_list PySem.F.slot_list_pop PySem.F.type_list_pop mt_pop ms_pop (x_ix hr (e_var 0) e_int)))
  (s_cons (s_expr (e_m PySem.F.plainAttrs_list PySem.F.slot_list_append PySem.F.type_list_append L2.mt_append ms_app (x_ix hr (e_var 0) e_int) (a_cons (x_fdiv (e_var 2) (e_var 1)) a_nil)))
  (s_one (s_ret (x_mod (e_callTy (x := "int") call_int ca_int (by rfl) (g.free_int) PyProof.Rows.boot_int (a_cons (e_var 2) a_nil)) (e_var 1)))))) s_nil)
  (s_cons (s_asg (x_mod (e_callTy (x := "int") call_int ca_int (by rfl) (g.free_int) PyProof.Rows.boot_int (a_cons (x_add (x_mul (x_ix hr (e_var 0) e_int) e_int) e_int) a_nil)) e_int) (g_of (S := [0]) (z_ix hr (e_var 0) e_int)) gok_ix)
  (s_one (s_ret (x_mod (e_callTy (x := "int") call_int ca_int (by rfl) (g.free_int) PyProof.Rows.boot_int (a_cons (x_fdiv (x_ix hr (e_var 0) e_int) e_int) a_nil)) (e_var 1)))))))

theorem sub_cells : ∀ z ∈ cls_cells, z ∈ (["Deed", "World"] : List Str) := by decide +kernel
theorem sub_deeds : ∀ z ∈ cls_deeds, z ∈ (["Deed", "World"] : List Str) := by decide +kernel
theorem sub_name : ∀ z ∈ cls_name, z ∈ (["Deed", "World"] : List Str) := by decide +kernel
theorem sub_needs : ∀ z ∈ cls_needs, z ∈ (["Deed", "World"] : List Str) := by decide +kernel
theorem sub_sets : ∀ z ∈ cls_sets, z ∈ (["Deed", "World"] : List Str) := by decide +kernel
theorem sub_tells : ∀ z ∈ cls_tells, z ∈ (["Deed", "World"] : List Str) := by decide +kernel
section
variable {h : Heap}
theorem own_glo (X : K.In h) (G : h.Ns mainGlobals mg) (c : He5.SaysA fa fn K) : ∀ c ∈ (["Deed", "World"] : List Str), mg c = some (.ref (He.ga K c)) := by
  intro c hc
  simp only [List.mem_cons, List.not_mem_nil, or_false] at hc
  rcases hc with rfl | rfl
  · exact He.glo_ok X G (He5.SaysA.fact ‹_› 0 (f := .glo "Deed") rfl)
  · exact He.glo_ok X G (He5.SaysA.fact ‹_› 5 (f := .glo "World") rfl)
theorem gf (X : K.In h) (G : h.Ns mainGlobals mg) (c : He5.SaysA fa fn K) (e : exB K = true) : Gf K mg := by
  have c0 : exB0 K = true := e
  obtain ⟨e0, r0⟩ := He.ba (show ((topTup K "RESERVED" k_RESERVED) && _) = true from c0)
  obtain ⟨e1, r1⟩ := He.ba (show ((fldB K cls_cells "cells") && _) = true from r0)
  obtain ⟨e2, r2⟩ := He.ba (show ((fldB K cls_deeds "deeds") && _) = true from r1)
  obtain ⟨e3, r3⟩ := He.ba (show ((fldB K cls_name "name") && _) = true from r2)
  obtain ⟨e4, r4⟩ := He.ba (show ((fldB K cls_needs "needs") && _) = true from r3)
  obtain ⟨e5, r5⟩ := He.ba (show ((fldB K cls_sets "sets") && _) = true from r4)
  obtain ⟨e6, r6⟩ := He.ba (show ((fldB K cls_tells "tells") && _) = true from r5)
  obtain ⟨e7, r7⟩ := He.ba (show ((clsMB K "Deed" "read") && _) = true from r6)
  obtain ⟨e8, r8⟩ := He.ba (show ((ownEqB K "Deed") && _) = true from r7)
  obtain ⟨e9, r9⟩ := He.ba (show ((ownStrB K "Deed") && _) = true from r8)
  obtain ⟨e10, r10⟩ := He.ba (show ((xcB K "InvalidDeed" "word") && _) = true from r9)
  obtain ⟨e11, r11⟩ := He.ba (show ((xcB K "InvalidText" "at") && _) = true from r10)
  obtain ⟨e12, r12⟩ := He.ba (show ((xcB K "InvalidWorld" "word") && _) = true from r11)
  obtain ⟨e13, r13⟩ := He.ba (show ((adrTup K (He.dflAt ("Deed", some "__init__") 0 K) []) && _) = true from r12)
  obtain ⟨e14, r14⟩ := He.ba (show ((adrTup K (He.dflAt ("Deed", some "__init__") 1 K) []) && _) = true from r13)
  obtain ⟨e15, r15⟩ := He.ba (show ((adrTup K (He.dflAt ("Deed", some "__init__") 2 K) []) && _) = true from r14)
  obtain ⟨e16, r16⟩ := He.ba (show ((adrTup K (He.dflAt ("done", none) 0 K) []) && _) = true from r15)
  obtain ⟨e17, r17⟩ := He.ba (show ((tabB K clsI tbI) && _) = true from r16)
  have e18 : (insB K clsI) = true := r17
  exact {
    glo_Deed := He.glo_ok X G (c.fact 0 (f := .glo "Deed") rfl)
    glo_InvalidDeed := He.glo_ok X G (c.fact 1 (f := .glo "InvalidDeed") rfl)
    glo_InvalidText := He.glo_ok X G (c.fact 2 (f := .glo "InvalidText") rfl)
    glo_InvalidWorld := He.glo_ok X G (c.fact 3 (f := .glo "InvalidWorld") rfl)
    glo_RESERVED := He.glo_ok X G (c.fact 4 (f := .glo "RESERVED") rfl)
    glo_World := He.glo_ok X G (c.fact 5 (f := .glo "World") rfl)
    glo__are_cells := He.glo_ok X G (c.fact 6 (f := .glo "_are_cells") rfl)
    glo__are_deeds := He.glo_ok X G (c.fact 7 (f := .glo "_are_deeds") rfl)
    glo__are_different_cells := He.glo_ok X G (c.fact 8 (f := .glo "_are_different_cells") rfl)
    glo__are_needs := He.glo_ok X G (c.fact 9 (f := .glo "_are_needs") rfl)
    glo__are_sets := He.glo_ok X G (c.fact 10 (f := .glo "_are_sets") rfl)
    glo__are_tells := He.glo_ok X G (c.fact 11 (f := .glo "_are_tells") rfl)
    glo__fits := He.glo_ok X G (c.fact 12 (f := .glo "_fits") rfl)
    glo__is_setting := He.glo_ok X G (c.fact 13 (f := .glo "_is_setting") rfl)
    glo__law_deal := He.glo_ok X G (c.fact 14 (f := .glo "_law_deal") rfl)
    glo__law_draw := He.glo_ok X G (c.fact 15 (f := .glo "_law_draw") rfl)
    glo__parts_text := He.glo_ok X G (c.fact 16 (f := .glo "_parts_text") rfl)
    glo__read_deed := He.glo_ok X G (c.fact 17 (f := .glo "_read_deed") rfl)
    glo__take_part := He.glo_ok X G (c.fact 18 (f := .glo "_take_part") rfl)
    glo_are_different := He.glo_ok X G (c.fact 19 (f := .glo "are_different") rfl)
    glo_digits_of := He.glo_ok X G (c.fact 20 (f := .glo "digits_of") rfl)
    glo_done := He.glo_ok X G (c.fact 21 (f := .glo "done") rfl)
    glo_is_integer := He.glo_ok X G (c.fact 22 (f := .glo "is_integer") rfl)
    glo_is_name := He.glo_ok X G (c.fact 23 (f := .glo "is_name") rfl)
    glo_is_number := He.glo_ok X G (c.fact 24 (f := .glo "is_number") rfl)
    glo_is_number_text := He.glo_ok X G (c.fact 25 (f := .glo "is_number_text") rfl)
    glo_is_scene := He.glo_ok X G (c.fact 26 (f := .glo "is_scene") rfl)
    glo_is_sequence := He.glo_ok X G (c.fact 27 (f := .glo "is_sequence") rfl)
    glo_is_tuple := He.glo_ok X G (c.fact 28 (f := .glo "is_tuple") rfl)
    glo_told := He.glo_ok X G (c.fact 29 (f := .glo "told") rfl)
    free_abs := He.free_ok X G (c.fact 30 (f := .free "abs") rfl)
    free_all := He.free_ok X G (c.fact 31 (f := .free "all") rfl)
    free_any := He.free_ok X G (c.fact 32 (f := .free "any") rfl)
    free_bool := He.free_ok X G (c.fact 33 (f := .free "bool") rfl)
    free_dict := He.free_ok X G (c.fact 34 (f := .free "dict") rfl)
    free_divmod := He.free_ok X G (c.fact 35 (f := .free "divmod") rfl)
    free_int := He.free_ok X G (c.fact 36 (f := .free "int") rfl)
    free_isinstance := He.free_ok X G (c.fact 37 (f := .free "isinstance") rfl)
    free_len := He.free_ok X G (c.fact 38 (f := .free "len") rfl)
    free_list := He.free_ok X G (c.fact 39 (f := .free "list") rfl)
    free_max := He.free_ok X G (c.fact 40 (f := .free "max") rfl)
    free_min := He.free_ok X G (c.fact 41 (f := .free "min") rfl)
    free_range := He.free_ok X G (c.fact 42 (f := .free "range") rfl)
    free_set := He.free_ok X G (c.fact 43 (f := .free "set") rfl)
    free_sorted := He.free_ok X G (c.fact 44 (f := .free "sorted") rfl)
    free_str := He.free_ok X G (c.fact 45 (f := .free "str") rfl)
    free_tuple := He.free_ok X G (c.fact 46 (f := .free "tuple") rfl)
    free_zip := He.free_ok X G (c.fact 47 (f := .free "zip") rfl)
    meth_World_deed := He.meth_ok (c.fact 48 (f := .meth "World" "deed") rfl)
    cls_World := He.cls_ok (c.fact 49 (f := .cls "World") rfl)
    meth_World_scenes := He.meth_ok (c.fact 50 (f := .meth "World" "scenes") rfl)
    mk_Deed := He.mkr_ok (c.fact 51 (f := .mkr "Deed") rfl)
    mk_World := He.mkr_ok (c.fact 52 (f := .mkr "World") rfl)
    str_DIGITS := He.str_ok X G (c.fact 53 (f := .str "DIGITS" "0123456789") rfl)
    str_LETTERS := He.str_ok X G (c.fact 54 (f := .str "LETTERS" "abcdefghijklmnopqrstuvwxyz") rfl)
    tup_RESERVED := topTup_ok e0
    fld_cells := fld_ok (fun z hz => own_glo X G c z (sub_cells z hz)) e1
    fld_deeds := fld_ok (fun z hz => own_glo X G c z (sub_deeds z hz)) e2
    fld_name := fld_ok (fun z hz => own_glo X G c z (sub_name z hz)) e3
    fld_needs := fld_ok (fun z hz => own_glo X G c z (sub_needs z hz)) e4
    fld_sets := fld_ok (fun z hz => own_glo X G c z (sub_sets z hz)) e5
    fld_tells := fld_ok (fun z hz => own_glo X G c z (sub_tells z hz)) e6
    cm_Deed_read := clsM_ok e7
    oeq_Deed := ownEq_ok e8
    ostr_Deed := ownStr_ok e9
    xc_InvalidDeed := xcB_ok e10
    xc_InvalidText := xcB_ok e11
    xc_InvalidWorld := xcB_ok e12
    dfl_Deed___init___0 := adrTup_ok e13
    dfl_Deed___init___1 := adrTup_ok e14
    dfl_Deed___init___2 := adrTup_ok e15
    dfl_done_0 := adrTup_ok e16
    tab := tab_ok (own_glo X G c) e17
    insty := ins_ok (own_glo X G c) e18 }
end
theorem xc_InvalidDeed (g : Gf K mg) (c : He5.SaysA fa fn K) : XC P w K mg base "InvalidDeed" "word" := by
  obtain ⟨fd, F⟩ := c.def_ 31 (d := d_InvalidDeed___init__) rfl
  exact xc_of (y := "word") g.xc_InvalidDeed F sc_InvalidDeed___init__ (FunD.bindsN F fun _ _ _ _ _ _ us hl => match us, hl with | [_, _], _ => rfl) fun cdv A outer s H E => pss_one (ps_ost (pe_var (i := 0) rfl (.inl rfl) (by decide) (by decide)) (pe_var (i := 1) rfl (.inl rfl) (by decide) (by decide)))
theorem xc_InvalidText (g : Gf K mg) (c : He5.SaysA fa fn K) : XC P w K mg base "InvalidText" "at" := by
  obtain ⟨fd, F⟩ := c.def_ 32 (d := d_InvalidText___init__) rfl
  exact xc_of (y := "at") g.xc_InvalidText F sc_InvalidText___init__ (FunD.bindsN F fun _ _ _ _ _ _ us hl => match us, hl with | [_, _], _ => rfl) fun cdv A outer s H E => pss_one (ps_ost (pe_var (i := 0) rfl (.inl rfl) (by decide) (by decide)) (pe_var (i := 1) rfl (.inl rfl) (by decide) (by decide)))
theorem xc_InvalidWorld (g : Gf K mg) (c : He5.SaysA fa fn K) : XC P w K mg base "InvalidWorld" "word" := by
  obtain ⟨fd, F⟩ := c.def_ 33 (d := d_InvalidWorld___init__) rfl
  exact xc_of (y := "word") g.xc_InvalidWorld F sc_InvalidWorld___init__ (FunD.bindsN F fun _ _ _ _ _ _ us hl => match us, hl with | [_, _], _ => rfl) fun cdv A outer s H E => pss_one (ps_ost (pe_var (i := 0) rfl (.inl rfl) (by decide) (by decide)) (pe_var (i := 1) rfl (.inl rfl) (by decide) (by decide)))
theorem J_digits_of (g : Gf K mg) (c : He5.SaysA fa fn K) : FnJ P w K mg base 1 (He.fAd K ("digits_of", none)) "digits_of" "digits_of" (defArgs (top 11)) (defBody (top 11)) (defScope (top 11)) [] ["number"] m_digits_of := by
  obtain ⟨fd, F⟩ := c.def_ 0 (d := d_digits_of) rfl
  exact ⟨fd, F, m_fn F sc_digits_of (fun cdv A outer s H E hr => b_digits_of g  cdv A outer s H E hr)⟩
theorem has_digits_of (g : Gf K mg) (c : He5.SaysA fa fn K) : Has P w K mg base 1 ("digits_of", none) ["number"] m_digits_of :=
  (J_digits_of g c).has0 (fun _ _ _ _ _ _ us hl => match us, hl with | [_], _ => rfl)
theorem J__parts_text (g : Gf K mg) (c : He5.SaysA fa fn K) : FnJ P w K mg base 2 (He.fAd K ("_parts_text", none)) "_parts_text" "_parts_text" (defArgs (top 33)) (defBody (top 33)) (defScope (top 33)) [] ["deed"] m__parts_text := by
  obtain ⟨fd, F⟩ := c.def_ 1 (d := d__parts_text) rfl
  exact ⟨fd, F, m_fn F sc__parts_text (fun cdv A outer s H E hr => b__parts_text g (has_digits_of g c) cdv A outer s H E hr)⟩
theorem has__parts_text (g : Gf K mg) (c : He5.SaysA fa fn K) : Has P w K mg base 2 ("_parts_text", none) ["deed"] m__parts_text :=
  (J__parts_text g c).has0 (fun _ _ _ _ _ _ us hl => match us, hl with | [_], _ => rfl)
theorem J_Deed___str__ (g : Gf K mg) (c : He5.SaysA fa fn K) : FnJ P w K mg base 3 (He.fAd K ("Deed", some "__str__")) "__str__" "Deed.__str__" (defArgs (cb (top 20) 3)) (defBody (cb (top 20) 3)) (defScope (cb (top 20) 3)) [] ["self"] m_Deed___str__ := by
  obtain ⟨fd, F⟩ := c.def_ 2 (d := d_Deed___str__) rfl
  exact ⟨fd, F, m_fn F sc_Deed___str__ (fun cdv A outer s H E hr => b_Deed___str__ g (has__parts_text g c) cdv A outer s H E hr)⟩
theorem has_Deed___str__ (g : Gf K mg) (c : He5.SaysA fa fn K) : Has P w K mg base 3 ("Deed", some "__str__") ["self"] m_Deed___str__ :=
  (J_Deed___str__ g c).has0 (fun _ _ _ _ _ _ us hl => match us, hl with | [_], _ => rfl)
theorem J_Deed___eq__ (g : Gf K mg) (c : He5.SaysA fa fn K) : FnJ P w K mg base 6 (He.fAd K ("Deed", some "__eq__")) "__eq__" "Deed.__eq__" (defArgs (cb (top 20) 2)) (defBody (cb (top 20) 2)) (defScope (cb (top 20) 2)) [] ["self", "other"] m_Deed___eq__ := by
  obtain ⟨fd, F⟩ := c.def_ 3 (d := d_Deed___eq__) rfl
  exact ⟨fd, F, m_fn F sc_Deed___eq__ (fun cdv A outer s H E hr => b_Deed___eq__ g (has_Deed___str__ g c) cdv A outer s H E hr)⟩
theorem has_Deed___eq__ (g : Gf K mg) (c : He5.SaysA fa fn K) : Has P w K mg base 6 ("Deed", some "__eq__") ["self", "other"] m_Deed___eq__ :=
  (J_Deed___eq__ g c).has0 (fun _ _ _ _ _ _ us hl => match us, hl with | [_, _], _ => rfl)
theorem J_are_different (g : Gf K mg) (c : He5.SaysA fa fn K) : FnJ P w K mg base 1 (He.fAd K ("are_different", none)) "are_different" "are_different" (defArgs (top 10)) (defBody (top 10)) (defScope (top 10)) [] ["values"] m_are_different := by
  obtain ⟨fd, F⟩ := c.def_ 4 (d := d_are_different) rfl
  exact ⟨fd, F, m_fn F sc_are_different (fun cdv A outer s H E hr => b_are_different g  cdv A outer s H E hr)⟩
theorem has_are_different (g : Gf K mg) (c : He5.SaysA fa fn K) : Has P w K mg base 1 ("are_different", none) ["values"] m_are_different :=
  (J_are_different g c).has0 (fun _ _ _ _ _ _ us hl => match us, hl with | [_], _ => rfl)
theorem J_is_name (g : Gf K mg) (c : He5.SaysA fa fn K) : FnJ P w K mg base 1 (He.fAd K ("is_name", none)) "is_name" "is_name" (defArgs (top 6)) (defBody (top 6)) (defScope (top 6)) [] ["value"] m_is_name := by
  obtain ⟨fd, F⟩ := c.def_ 5 (d := d_is_name) rfl
  exact ⟨fd, F, m_fn F sc_is_name (fun cdv A outer s H E hr => b_is_name g  cdv A outer s H E hr)⟩
theorem has_is_name (g : Gf K mg) (c : He5.SaysA fa fn K) : Has P w K mg base 1 ("is_name", none) ["value"] m_is_name :=
  (J_is_name g c).has0 (fun _ _ _ _ _ _ us hl => match us, hl with | [_], _ => rfl)
theorem J__are_different_cells (g : Gf K mg) (c : He5.SaysA fa fn K) : FnJ P w K mg base 2 (He.fAd K ("_are_different_cells", none)) "_are_different_cells" "_are_different_cells" (defArgs (top 29)) (defBody (top 29)) (defScope (top 29)) [] ["rows"] m__are_different_cells := by
  obtain ⟨fd, F⟩ := c.def_ 6 (d := d__are_different_cells) rfl
  exact ⟨fd, F, m_fn F sc__are_different_cells (fun cdv A outer s H E hr => b__are_different_cells g (has_are_different g c) (has_is_name g c) cdv A outer s H E hr)⟩
theorem has__are_different_cells (g : Gf K mg) (c : He5.SaysA fa fn K) : Has P w K mg base 2 ("_are_different_cells", none) ["rows"] m__are_different_cells :=
  (J__are_different_cells g c).has0 (fun _ _ _ _ _ _ us hl => match us, hl with | [_], _ => rfl)
theorem J_is_integer (g : Gf K mg) (c : He5.SaysA fa fn K) : FnJ P w K mg base 1 (He.fAd K ("is_integer", none)) "is_integer" "is_integer" (defArgs (top 4)) (defBody (top 4)) (defScope (top 4)) [] ["value"] m_is_integer := by
  obtain ⟨fd, F⟩ := c.def_ 7 (d := d_is_integer) rfl
  exact ⟨fd, F, m_fn F sc_is_integer (fun cdv A outer s H E hr => b_is_integer g  cdv A outer s H E hr)⟩
theorem has_is_integer (g : Gf K mg) (c : He5.SaysA fa fn K) : Has P w K mg base 1 ("is_integer", none) ["value"] m_is_integer :=
  (J_is_integer g c).has0 (fun _ _ _ _ _ _ us hl => match us, hl with | [_], _ => rfl)
theorem J_is_number (g : Gf K mg) (c : He5.SaysA fa fn K) : FnJ P w K mg base 2 (He.fAd K ("is_number", none)) "is_number" "is_number" (defArgs (top 5)) (defBody (top 5)) (defScope (top 5)) [] ["value"] m_is_number := by
  obtain ⟨fd, F⟩ := c.def_ 8 (d := d_is_number) rfl
  exact ⟨fd, F, m_fn F sc_is_number (fun cdv A outer s H E hr => b_is_number g (has_is_integer g c) cdv A outer s H E hr)⟩
theorem has_is_number (g : Gf K mg) (c : He5.SaysA fa fn K) : Has P w K mg base 2 ("is_number", none) ["value"] m_is_number :=
  (J_is_number g c).has0 (fun _ _ _ _ _ _ us hl => match us, hl with | [_], _ => rfl)
theorem J_is_sequence (g : Gf K mg) (c : He5.SaysA fa fn K) : FnJ P w K mg base 1 (He.fAd K ("is_sequence", none)) "is_sequence" "is_sequence" (defArgs (top 7)) (defBody (top 7)) (defScope (top 7)) [] ["value"] m_is_sequence := by
  obtain ⟨fd, F⟩ := c.def_ 9 (d := d_is_sequence) rfl
  exact ⟨fd, F, m_fn F sc_is_sequence (fun cdv A outer s H E hr => b_is_sequence g  cdv A outer s H E hr)⟩
theorem has_is_sequence (g : Gf K mg) (c : He5.SaysA fa fn K) : Has P w K mg base 1 ("is_sequence", none) ["value"] m_is_sequence :=
  (J_is_sequence g c).has0 (fun _ _ _ _ _ _ us hl => match us, hl with | [_], _ => rfl)
theorem J_is_tuple (g : Gf K mg) (c : He5.SaysA fa fn K) : FnJ P w K mg base 1 (He.fAd K ("is_tuple", none)) "is_tuple" "is_tuple" (defArgs (top 8)) (defBody (top 8)) (defScope (top 8)) [] ["value", "size"] m_is_tuple := by
  obtain ⟨fd, F⟩ := c.def_ 10 (d := d_is_tuple) rfl
  exact ⟨fd, F, m_fn F sc_is_tuple (fun cdv A outer s H E hr => b_is_tuple g  cdv A outer s H E hr)⟩
theorem has_is_tuple (g : Gf K mg) (c : He5.SaysA fa fn K) : Has P w K mg base 1 ("is_tuple", none) ["value", "size"] m_is_tuple :=
  (J_is_tuple g c).has0 (fun _ _ _ _ _ _ us hl => match us, hl with | [_, _], _ => rfl)
theorem J__are_needs (g : Gf K mg) (c : He5.SaysA fa fn K) : FnJ P w K mg base 3 (He.fAd K ("_are_needs", none)) "_are_needs" "_are_needs" (defArgs (top 25)) (defBody (top 25)) (defScope (top 25)) [] ["value"] m__are_needs := by
  obtain ⟨fd, F⟩ := c.def_ 11 (d := d__are_needs) rfl
  exact ⟨fd, F, m_fn F sc__are_needs (fun cdv A outer s H E hr => b__are_needs g (has__are_different_cells g c) (has_is_number g c) (has_is_sequence g c) (has_is_tuple g c) cdv A outer s H E hr)⟩
theorem has__are_needs (g : Gf K mg) (c : He5.SaysA fa fn K) : Has P w K mg base 3 ("_are_needs", none) ["value"] m__are_needs :=
  (J__are_needs g c).has0 (fun _ _ _ _ _ _ us hl => match us, hl with | [_], _ => rfl)
theorem J__is_setting (g : Gf K mg) (c : He5.SaysA fa fn K) : FnJ P w K mg base 2 (He.fAd K ("_is_setting", none)) "_is_setting" "_is_setting" (defArgs (top 27)) (defBody (top 27)) (defScope (top 27)) [] ["how", "number"] m__is_setting := by
  obtain ⟨fd, F⟩ := c.def_ 12 (d := d__is_setting) rfl
  exact ⟨fd, F, m_fn F sc__is_setting (fun cdv A outer s H E hr => b__is_setting g (has_is_integer g c) cdv A outer s H E hr)⟩
theorem has__is_setting (g : Gf K mg) (c : He5.SaysA fa fn K) : Has P w K mg base 2 ("_is_setting", none) ["how", "number"] m__is_setting :=
  (J__is_setting g c).has0 (fun _ _ _ _ _ _ us hl => match us, hl with | [_, _], _ => rfl)
theorem J__are_sets (g : Gf K mg) (c : He5.SaysA fa fn K) : FnJ P w K mg base 3 (He.fAd K ("_are_sets", none)) "_are_sets" "_are_sets" (defArgs (top 26)) (defBody (top 26)) (defScope (top 26)) [] ["value"] m__are_sets := by
  obtain ⟨fd, F⟩ := c.def_ 13 (d := d__are_sets) rfl
  exact ⟨fd, F, m_fn F sc__are_sets (fun cdv A outer s H E hr => b__are_sets g (has__are_different_cells g c) (has__is_setting g c) (has_is_sequence g c) (has_is_tuple g c) cdv A outer s H E hr)⟩
theorem has__are_sets (g : Gf K mg) (c : He5.SaysA fa fn K) : Has P w K mg base 3 ("_are_sets", none) ["value"] m__are_sets :=
  (J__are_sets g c).has0 (fun _ _ _ _ _ _ us hl => match us, hl with | [_], _ => rfl)
theorem J__are_tells (g : Gf K mg) (c : He5.SaysA fa fn K) : FnJ P w K mg base 2 (He.fAd K ("_are_tells", none)) "_are_tells" "_are_tells" (defArgs (top 28)) (defBody (top 28)) (defScope (top 28)) [] ["value"] m__are_tells := by
  obtain ⟨fd, F⟩ := c.def_ 14 (d := d__are_tells) rfl
  exact ⟨fd, F, m_fn F sc__are_tells (fun cdv A outer s H E hr => b__are_tells g (has_are_different g c) (has_is_name g c) (has_is_sequence g c) cdv A outer s H E hr)⟩
theorem has__are_tells (g : Gf K mg) (c : He5.SaysA fa fn K) : Has P w K mg base 2 ("_are_tells", none) ["value"] m__are_tells :=
  (J__are_tells g c).has0 (fun _ _ _ _ _ _ us hl => match us, hl with | [_], _ => rfl)
theorem J_Deed___init__ (g : Gf K mg) (c : He5.SaysA fa fn K) : FnJ P w K mg base 4 (He.fAd K ("Deed", some "__init__")) "__init__" "Deed.__init__" (defArgs (cb (top 20) 0)) (defBody (cb (top 20) 0)) (defScope (cb (top 20) 0)) (d_Deed___init__.dvs K) ["self", "name", "needs", "sets", "tells"] m_Deed___init__ := by
  obtain ⟨fd, F⟩ := c.def_ 15 (d := d_Deed___init__) rfl
  exact ⟨fd, F, m_fn F sc_Deed___init__ (fun cdv A outer s H E hr => b_Deed___init__ g (xc_InvalidDeed g c) (has__are_needs g c) (has__are_sets g c) (has__are_tells g c) (has_is_name g c) cdv A outer s H E hr)⟩
theorem hWk_Deed___init___1_tells_sets_needs_name (g : Gf K mg) (c : He5.SaysA fa fn K) : HasK P w K mg base 4 ("Deed", some "__init__") ["self", "name", "needs", "sets", "tells"] m_Deed___init__ 1 ["tells", "sets", "needs", "name"] (selA s_Wk_Deed___init___1_tells_sets_needs_name a_Deed___init__) :=
  (J_Deed___init__ g c).hasK (rds_tup g.dfl_Deed___init___0 (rds_tup g.dfl_Deed___init___1 (rds_tup g.dfl_Deed___init___2 rds_nil))) (fun fd F => kbn_df F 1 ["tells", "sets", "needs", "name"] s_Wk_Deed___init___1_tells_sets_needs_name (fun z => by cases z) (fun _ _ _ _ _ _ _ us its ws h1 h2 h3 => match us, its, ws, h1, h2, h3 with | [_], [_, _, _], [_, _, _, _], _, _, _ => ⟨_, rfl, rfl⟩))
theorem hWk_Deed___init___4 (g : Gf K mg) (c : He5.SaysA fa fn K) : HasK P w K mg base 4 ("Deed", some "__init__") ["self", "name", "needs", "sets", "tells"] m_Deed___init__ 4 [] (selA s_Wk_Deed___init___4 a_Deed___init__) :=
  (J_Deed___init__ g c).hasK (rds_tup g.dfl_Deed___init___0 (rds_tup g.dfl_Deed___init___1 (rds_tup g.dfl_Deed___init___2 rds_nil))) (fun fd F => kbn_df F 4 [] s_Wk_Deed___init___4 (fun z => by cases z) (fun _ _ _ _ _ _ _ us its ws h1 h2 h3 => match us, its, ws, h1, h2, h3 with | [_, _, _, _], [_, _, _], [], _, _, _ => ⟨_, rfl, rfl⟩))
theorem has_Deed___init__ (g : Gf K mg) (c : He5.SaysA fa fn K) : Has P w K mg base 4 ("Deed", some "__init__") ["self", "name", "needs", "sets", "tells"] m_Deed___init__ :=
  (J_Deed___init__ g c).hasD (fun fd F => by
    obtain ⟨ds, hv, hb⟩ := FunD.binds1 (ps := ["self", "name", "needs", "sets", "tells"]) F 5 3 (fun z => by cases z) rfl (fun _ _ _ _ _ _ _ us its h1 h2 => match us, its, h1, h2 with | [_, _, _, _, _], [_, _, _], _, _ => ⟨_, rfl, rfl⟩)
    cases hv
    exact hb)
theorem J_is_number_text (g : Gf K mg) (c : He5.SaysA fa fn K) : FnJ P w K mg base 1 (He.fAd K ("is_number_text", none)) "is_number_text" "is_number_text" (defArgs (top 9)) (defBody (top 9)) (defScope (top 9)) [] ["text"] m_is_number_text := by
  obtain ⟨fd, F⟩ := c.def_ 16 (d := d_is_number_text) rfl
  exact ⟨fd, F, m_fn F sc_is_number_text (fun cdv A outer s H E hr => b_is_number_text g  cdv A outer s H E hr)⟩
theorem has_is_number_text (g : Gf K mg) (c : He5.SaysA fa fn K) : Has P w K mg base 1 ("is_number_text", none) ["text"] m_is_number_text :=
  (J_is_number_text g c).has0 (fun _ _ _ _ _ _ us hl => match us, hl with | [_], _ => rfl)
theorem J__take_part (g : Gf K mg) (c : He5.SaysA fa fn K) : FnJ P w K mg base 2 (He.fAd K ("_take_part", none)) "_take_part" "_take_part" (defArgs (top 35)) (defBody (top 35)) (defScope (top 35)) [] ["words", "needs", "sets", "tells"] m__take_part := by
  obtain ⟨fd, F⟩ := c.def_ 17 (d := d__take_part) rfl
  exact ⟨fd, F, m_fn F sc__take_part (fun cdv A outer s H E hr => b__take_part g (has_is_number_text g c) cdv A outer s H E hr)⟩
theorem has__take_part (g : Gf K mg) (c : He5.SaysA fa fn K) : Has P w K mg base 2 ("_take_part", none) ["words", "needs", "sets", "tells"] m__take_part :=
  (J__take_part g c).has0 (fun _ _ _ _ _ _ us hl => match us, hl with | [_, _, _, _], _ => rfl)
theorem J__read_deed (g : Gf K mg) (c : He5.SaysA fa fn K) : FnJ P w K mg base 4 (He.fAd K ("_read_deed", none)) "_read_deed" "_read_deed" (defArgs (top 34)) (defBody (top 34)) (defScope (top 34)) [] ["text"] m__read_deed := by
  obtain ⟨fd, F⟩ := c.def_ 18 (d := d__read_deed) rfl
  exact ⟨fd, F, m_fn F sc__read_deed (fun cdv A outer s H E hr => b__read_deed g (has__are_needs g c) (has__are_sets g c) (has__are_tells g c) (has__take_part g c) (has_is_name g c) cdv A outer s H E hr)⟩
theorem has__read_deed (g : Gf K mg) (c : He5.SaysA fa fn K) : Has P w K mg base 4 ("_read_deed", none) ["text"] m__read_deed :=
  (J__read_deed g c).has0 (fun _ _ _ _ _ _ us hl => match us, hl with | [_], _ => rfl)
theorem J_Deed_read (g : Gf K mg) (c : He5.SaysA fa fn K) : FnJ P w K mg base 6 (cmAd K "Deed" "read") "read" "Deed.read" (defArgs (cb (top 20) 1)) (defBody (cb (top 20) 1)) (defScope (cb (top 20) 1)) [] ["cls", "text"] m_Deed_read := by
  obtain ⟨fd, F⟩ := c.def_ 19 (d := d_Deed_read) rfl
  exact ⟨fd, F, m_fn F sc_Deed_read (fun cdv A outer s H E hr => b_Deed_read g (xc_InvalidText g c) (has_Deed___init__ g c) (has__read_deed g c) cdv A outer s H E hr)⟩
theorem hWc_Deed_read_1_text (g : Gf K mg) (c : He5.SaysA fa fn K) : HasC P w K mg base 6 "Deed" "read" ["cls", "text"] m_Deed_read 1 ["text"] (selA s_Wc_Deed_read_1_text a_Deed_read) :=
  (J_Deed_read g c).hasC rds_nil (fun fd F => kbn_no1 F (fun _ _ _ _ _ _ us ws h1 h2 => match us, ws, h1, h2 with | [_], [_], _, _ => rfl))
theorem J__are_cells (g : Gf K mg) (c : He5.SaysA fa fn K) : FnJ P w K mg base 3 (He.fAd K ("_are_cells", none)) "_are_cells" "_are_cells" (defArgs (top 30)) (defBody (top 30)) (defScope (top 30)) [] ["value"] m__are_cells := by
  obtain ⟨fd, F⟩ := c.def_ 20 (d := d__are_cells) rfl
  exact ⟨fd, F, m_fn F sc__are_cells (fun cdv A outer s H E hr => b__are_cells g (has__are_different_cells g c) (has_is_integer g c) (has_is_sequence g c) (has_is_tuple g c) cdv A outer s H E hr)⟩
theorem has__are_cells (g : Gf K mg) (c : He5.SaysA fa fn K) : Has P w K mg base 3 ("_are_cells", none) ["value"] m__are_cells :=
  (J__are_cells g c).has0 (fun _ _ _ _ _ _ us hl => match us, hl with | [_], _ => rfl)
theorem J__fits (g : Gf K mg) (c : He5.SaysA fa fn K) : FnJ P w K mg base 1 (He.fAd K ("_fits", none)) "_fits" "_fits" (defArgs (top 32)) (defBody (top 32)) (defScope (top 32)) [] ["deed", "sizes"] m__fits := by
  obtain ⟨fd, F⟩ := c.def_ 21 (d := d__fits) rfl
  exact ⟨fd, F, m_fn F sc__fits (fun cdv A outer s H E hr => b__fits g  cdv A outer s H E hr)⟩
theorem has__fits (g : Gf K mg) (c : He5.SaysA fa fn K) : Has P w K mg base 1 ("_fits", none) ["deed", "sizes"] m__fits :=
  (J__fits g c).has0 (fun _ _ _ _ _ _ us hl => match us, hl with | [_, _], _ => rfl)
theorem J__are_deeds (g : Gf K mg) (c : He5.SaysA fa fn K) : FnJ P w K mg base 2 (He.fAd K ("_are_deeds", none)) "_are_deeds" "_are_deeds" (defArgs (top 31)) (defBody (top 31)) (defScope (top 31)) [] ["value", "sizes"] m__are_deeds := by
  obtain ⟨fd, F⟩ := c.def_ 22 (d := d__are_deeds) rfl
  exact ⟨fd, F, m_fn F sc__are_deeds (fun cdv A outer s H E hr => b__are_deeds g (has__fits g c) (has_are_different g c) (has_is_sequence g c) cdv A outer s H E hr)⟩
theorem has__are_deeds (g : Gf K mg) (c : He5.SaysA fa fn K) : Has P w K mg base 2 ("_are_deeds", none) ["value", "sizes"] m__are_deeds :=
  (J__are_deeds g c).has0 (fun _ _ _ _ _ _ us hl => match us, hl with | [_, _], _ => rfl)
theorem J_World___init__ (g : Gf K mg) (c : He5.SaysA fa fn K) : FnJ P w K mg base 4 (He.fAd K ("World", some "__init__")) "__init__" "World.__init__" (defArgs (cb (top 21) 0)) (defBody (cb (top 21) 0)) (defScope (cb (top 21) 0)) [] ["self", "cells", "deeds"] m_World___init__ := by
  obtain ⟨fd, F⟩ := c.def_ 23 (d := d_World___init__) rfl
  exact ⟨fd, F, m_fn F sc_World___init__ (fun cdv A outer s H E hr => b_World___init__ g (xc_InvalidWorld g c) (has__are_cells g c) (has__are_deeds g c) cdv A outer s H E hr)⟩
theorem hWk_World___init___1_deeds_cells (g : Gf K mg) (c : He5.SaysA fa fn K) : HasK P w K mg base 4 ("World", some "__init__") ["self", "cells", "deeds"] m_World___init__ 1 ["deeds", "cells"] (selA s_Wk_World___init___1_deeds_cells a_World___init__) :=
  (J_World___init__ g c).hasK rds_nil (fun fd F => kbn_no1 F (fun _ _ _ _ _ _ us ws h1 h2 => match us, ws, h1, h2 with | [_], [_, _], _, _ => rfl))
theorem has_World___init__ (g : Gf K mg) (c : He5.SaysA fa fn K) : Has P w K mg base 4 ("World", some "__init__") ["self", "cells", "deeds"] m_World___init__ :=
  (J_World___init__ g c).has0 (fun _ _ _ _ _ _ us hl => match us, hl with | [_, _, _], _ => rfl)
theorem J_World_deed (g : Gf K mg) (c : He5.SaysA fa fn K) : FnJ P w K mg base 1 (He.fAd K ("World", some "deed")) "deed" "World.deed" (defArgs (cb (top 21) 1)) (defBody (cb (top 21) 1)) (defScope (cb (top 21) 1)) [] ["self", "name"] m_World_deed := by
  obtain ⟨fd, F⟩ := c.def_ 24 (d := d_World_deed) rfl
  exact ⟨fd, F, m_fn F sc_World_deed (fun cdv A outer s H E hr => b_World_deed g  cdv A outer s H E hr)⟩
theorem hWk_World_deed_1_name (g : Gf K mg) (c : He5.SaysA fa fn K) : HasK P w K mg base 1 ("World", some "deed") ["self", "name"] m_World_deed 1 ["name"] (selA s_Wk_World_deed_1_name a_World_deed) :=
  (J_World_deed g c).hasK rds_nil (fun fd F => kbn_no1 F (fun _ _ _ _ _ _ us ws h1 h2 => match us, ws, h1, h2 with | [_], [_], _, _ => rfl))
theorem has_World_deed (g : Gf K mg) (c : He5.SaysA fa fn K) : Has P w K mg base 1 ("World", some "deed") ["self", "name"] m_World_deed :=
  (J_World_deed g c).has0 (fun _ _ _ _ _ _ us hl => match us, hl with | [_, _], _ => rfl)
theorem J_World_scenes (g : Gf K mg) (c : He5.SaysA fa fn K) : FnJ P w K mg base 1 (He.fAd K ("World", some "scenes")) "scenes" "World.scenes" (defArgs (cb (top 21) 2)) (defBody (cb (top 21) 2)) (defScope (cb (top 21) 2)) [] ["self"] m_World_scenes := by
  obtain ⟨fd, F⟩ := c.def_ 25 (d := d_World_scenes) rfl
  exact ⟨fd, F, m_fn F sc_World_scenes (fun cdv A outer s H E hr => b_World_scenes g  cdv A outer s H E hr)⟩
theorem has_World_scenes (g : Gf K mg) (c : He5.SaysA fa fn K) : Has P w K mg base 1 ("World", some "scenes") ["self"] m_World_scenes :=
  (J_World_scenes g c).has0 (fun _ _ _ _ _ _ us hl => match us, hl with | [_], _ => rfl)
theorem J_is_scene (g : Gf K mg) (c : He5.SaysA fa fn K) : FnJ P w K mg base 3 (He.fAd K ("is_scene", none)) "is_scene" "is_scene" (defArgs (top 24)) (defBody (top 24)) (defScope (top 24)) [] ["world", "value"] m_is_scene := by
  obtain ⟨fd, F⟩ := c.def_ 26 (d := d_is_scene) rfl
  exact ⟨fd, F, m_fn F sc_is_scene (fun cdv A outer s H E hr => b_is_scene g (has_is_number g c) (has_is_tuple g c) cdv A outer s H E hr)⟩
theorem has_is_scene (g : Gf K mg) (c : He5.SaysA fa fn K) : Has P w K mg base 3 ("is_scene", none) ["world", "value"] m_is_scene :=
  (J_is_scene g c).has0 (fun _ _ _ _ _ _ us hl => match us, hl with | [_, _], _ => rfl)
theorem J_done (g : Gf K mg) (c : He5.SaysA fa fn K) : FnJ P w K mg base 4 (He.fAd K ("done", none)) "done" "done" (defArgs (top 22)) (defBody (top 22)) (defScope (top 22)) (d_done.dvs K) ["world", "scene", "name", "old"] m_done := by
  obtain ⟨fd, F⟩ := c.def_ 27 (d := d_done) rfl
  exact ⟨fd, F, m_fn F sc_done (fun cdv A outer s H E hr => b_done g (has_World_deed g c) (has_is_scene g c) cdv A outer s H E hr)⟩
theorem hWk_done_0_name_scene_world (g : Gf K mg) (c : He5.SaysA fa fn K) : HasK P w K mg base 4 ("done", none) ["world", "scene", "name", "old"] m_done 0 ["name", "scene", "world"] (selA s_Wk_done_0_name_scene_world a_done) :=
  (J_done g c).hasK (rds_tup g.dfl_done_0 rds_nil) (fun fd F => kbn_df F 0 ["name", "scene", "world"] s_Wk_done_0_name_scene_world (fun z => by cases z) (fun _ _ _ _ _ _ _ us its ws h1 h2 h3 => match us, its, ws, h1, h2, h3 with | [], [_], [_, _, _], _, _, _ => ⟨_, rfl, rfl⟩))
theorem hWk_done_3_old (g : Gf K mg) (c : He5.SaysA fa fn K) : HasK P w K mg base 4 ("done", none) ["world", "scene", "name", "old"] m_done 3 ["old"] (selA s_Wk_done_3_old a_done) :=
  (J_done g c).hasK (rds_tup g.dfl_done_0 rds_nil) (fun fd F => kbn_df F 3 ["old"] s_Wk_done_3_old (fun z => by cases z) (fun _ _ _ _ _ _ _ us its ws h1 h2 h3 => match us, its, ws, h1, h2, h3 with | [_, _, _], [_], [_], _, _, _ => ⟨_, rfl, rfl⟩))
theorem hWk_done_3 (g : Gf K mg) (c : He5.SaysA fa fn K) : HasK P w K mg base 4 ("done", none) ["world", "scene", "name", "old"] m_done 3 [] (selA s_Wk_done_3 a_done) :=
  (J_done g c).hasK (rds_tup g.dfl_done_0 rds_nil) (fun fd F => kbn_df F 3 [] s_Wk_done_3 (fun z => by cases z) (fun _ _ _ _ _ _ _ us its ws h1 h2 h3 => match us, its, ws, h1, h2, h3 with | [_, _, _], [_], [], _, _, _ => ⟨_, rfl, rfl⟩))
theorem has_done (g : Gf K mg) (c : He5.SaysA fa fn K) : Has P w K mg base 4 ("done", none) ["world", "scene", "name", "old"] m_done :=
  (J_done g c).hasD (fun fd F => by
    obtain ⟨ds, hv, hb⟩ := FunD.binds1 (ps := ["world", "scene", "name", "old"]) F 4 1 (fun z => by cases z) rfl (fun _ _ _ _ _ _ _ us its h1 h2 => match us, its, h1, h2 with | [_, _, _, _], [_], _, _ => ⟨_, rfl, rfl⟩)
    cases hv
    exact hb)
theorem J_told (g : Gf K mg) (c : He5.SaysA fa fn K) : FnJ P w K mg base 2 (He.fAd K ("told", none)) "told" "told" (defArgs (top 23)) (defBody (top 23)) (defScope (top 23)) [] ["world", "name", "answer"] m_told := by
  obtain ⟨fd, F⟩ := c.def_ 28 (d := d_told) rfl
  exact ⟨fd, F, m_fn F sc_told (fun cdv A outer s H E hr => b_told g (has_World_deed g c) cdv A outer s H E hr)⟩
theorem hWk_told_0_answer_name_world (g : Gf K mg) (c : He5.SaysA fa fn K) : HasK P w K mg base 2 ("told", none) ["world", "name", "answer"] m_told 0 ["answer", "name", "world"] (selA s_Wk_told_0_answer_name_world a_told) :=
  (J_told g c).hasK rds_nil (fun fd F => kbn_no1 F (fun _ _ _ _ _ _ us ws h1 h2 => match us, ws, h1, h2 with | [], [_, _, _], _, _ => rfl))
theorem has_told (g : Gf K mg) (c : He5.SaysA fa fn K) : Has P w K mg base 2 ("told", none) ["world", "name", "answer"] m_told :=
  (J_told g c).has0 (fun _ _ _ _ _ _ us hl => match us, hl with | [_, _, _], _ => rfl)
theorem J__law_deal (g : Gf K mg) (c : He5.SaysA fa fn K) : FnJ P w K mg base 1 (He.fAd K ("_law_deal", none)) "_law_deal" "_law_deal" (defArgs (top 37)) (defBody (top 37)) (defScope (top 37)) [] ["_law_script", "_law_base"] m__law_deal := by
  obtain ⟨fd, F⟩ := c.def_ 29 (d := d__law_deal) rfl
  exact ⟨fd, F, m_fn F sc__law_deal (fun cdv A outer s H E hr => b__law_deal g  cdv A outer s H E hr)⟩
theorem has__law_deal (g : Gf K mg) (c : He5.SaysA fa fn K) : Has P w K mg base 1 ("_law_deal", none) ["_law_script", "_law_base"] m__law_deal :=
  (J__law_deal g c).has0 (fun _ _ _ _ _ _ us hl => match us, hl with | [_, _], _ => rfl)
theorem J__law_draw (g : Gf K mg) (c : He5.SaysA fa fn K) : FnJ P w K mg base 1 (He.fAd K ("_law_draw", none)) "_law_draw" "_law_draw" (defArgs (top 38)) (defBody (top 38)) (defScope (top 38)) [] ["_law_deal_here", "_law_bound"] m__law_draw := by
  obtain ⟨fd, F⟩ := c.def_ 30 (d := d__law_draw) rfl
  exact ⟨fd, F, m_fn F sc__law_draw (fun cdv A outer s H E hr => b__law_draw g  cdv A outer s H E hr)⟩
theorem has__law_draw (g : Gf K mg) (c : He5.SaysA fa fn K) : Has P w K mg base 1 ("_law_draw", none) ["_law_deal_here", "_law_bound"] m__law_draw :=
  (J__law_draw g c).has0 (fun _ _ _ _ _ _ us hl => match us, hl with | [_, _], _ => rfl)


def c_law : CS :=
  (cSeq (cFor (iRng1C (caCons (cB max2M (caCons (cC (.int 1)) (caCons (cB min2M (caCons (cC (.int 2)) (caCons (cB lenM (caCons (cVar 0) caNil)) caNil))) caNil))) caNil)) (gNam 1) (cSeq (cAsg (cCall 2 m__law_deal [] (caCons (cVar 0) (caCons (cVar 1) caNil))) (gNam 2))
  (cSeq (cAsg (cOp addM (cC (.int 2)) (cCall 2 m__law_draw [] (caCons (cVar 2) (caCons (cC (.int 3)) caNil)))) (gNam 3))
  (cFreshL opts))))
  (cRet (cC (.bl true))))
def m_law : List AV → CM AV := cFn 9 c_law
theorem b_law {f : Addr} (g : Gf K mg) (F_Deed___eq__ : Has P w K mg base 6 ("Deed", some "__eq__") ["self", "other"] m_Deed___eq__) (Wk_Deed___init___1_tells_sets_needs_name : HasK P w K mg base 4 ("Deed", some "__init__") ["self", "name", "needs", "sets", "tells"] m_Deed___init__ 1 ["tells", "sets", "needs", "name"] (selA s_Wk_Deed___init___1_tells_sets_needs_name a_Deed___init__)) (Wk_Deed___init___4 : HasK P w K mg base 4 ("Deed", some "__init__") ["self", "name", "needs", "sets", "tells"] m_Deed___init__ 4 [] (selA s_Wk_Deed___init___4 a_Deed___init__)) (F_Deed___init__ : Has P w K mg base 4 ("Deed", some "__init__") ["self", "name", "needs", "sets", "tells"] m_Deed___init__) (F_Deed___str__ : Has P w K mg base 3 ("Deed", some "__str__") ["self"] m_Deed___str__) (Wc_Deed_read_1_text : HasC P w K mg base 6 "Deed" "read" ["cls", "text"] m_Deed_read 1 ["text"] (selA s_Wc_Deed_read_1_text a_Deed_read)) (Wk_World___init___1_deeds_cells : HasK P w K mg base 4 ("World", some "__init__") ["self", "cells", "deeds"] m_World___init__ 1 ["deeds", "cells"] (selA s_Wk_World___init___1_deeds_cells a_World___init__)) (F_World___init__ : Has P w K mg base 4 ("World", some "__init__") ["self", "cells", "deeds"] m_World___init__) (Wk_World_deed_1_name : HasK P w K mg base 1 ("World", some "deed") ["self", "name"] m_World_deed 1 ["name"] (selA s_Wk_World_deed_1_name a_World_deed)) (F_World_deed : Has P w K mg base 1 ("World", some "deed") ["self", "name"] m_World_deed) (F_World_scenes : Has P w K mg base 1 ("World", some "scenes") ["self"] m_World_scenes) (F__law_deal : Has P w K mg base 1 ("_law_deal", none) ["_law_script", "_law_base"] m__law_deal) (F__law_draw : Has P w K mg base 1 ("_law_draw", none) ["_law_deal_here", "_law_bound"] m__law_draw) (Wk_done_0_name_scene_world : HasK P w K mg base 4 ("done", none) ["world", "scene", "name", "old"] m_done 0 ["name", "scene", "world"] (selA s_Wk_done_0_name_scene_world a_done)) (Wk_done_3_old : HasK P w K mg base 4 ("done", none) ["world", "scene", "name", "old"] m_done 3 ["old"] (selA s_Wk_done_3_old a_done)) (Wk_done_3 : HasK P w K mg base 4 ("done", none) ["world", "scene", "name", "old"] m_done 3 [] (selA s_Wk_done_3 a_done)) (F_done : Has P w K mg base 4 ("done", none) ["world", "scene", "name", "old"] m_done) (Wk_told_0_answer_name_world : HasK P w K mg base 2 ("told", none) ["world", "name", "answer"] m_told 0 ["answer", "name", "world"] (selA s_Wk_told_0_answer_name_world a_told)) (F_told : Has P w K mg base 2 ("told", none) ["world", "name", "answer"] m_told) (cdv : Value) (A : Around) (outer : List Env) (s : Shared) (H : Hp) (E : XK)
    (hr : Room 7 (A.deeper (envOfC "law" (defScope (top 41)) s.heap.objs.size f cdv))) :
    PSs (cxOf (L2.CX P w) P w K mg base N_law "law" (defScope (top 41)) f cdv A outer s H E) (defBody (top 41)) (tS ⟨K, mg⟩ E c_law) := by
  have hp := passes_of (X := cxOf (L2.CX P w) P w K mg base N_law "law" (defScope (top 41)) f cdv A outer s H E) rfl
  have hx : Passes (L2.CX P w) (cxOf (L2.CX P w) P w K mg base N_law "law" (defScope (top 41)) f cdv A outer s H E) E := passes_call (takes_of rfl rfl rfl rfl) fun _ _ _ _ h => h
  have hF := s_freshK (E := E) (os := opts) (b_tail g F_Deed___eq__ Wk_Deed___init___1_tells_sets_needs_name Wk_Deed___init___4 F_Deed___init__ F_Deed___str__ Wc_Deed_read_1_text Wk_World___init___1_deeds_cells F_World___init__ Wk_World_deed_1_name F_World_deed F_World_scenes Wk_done_0_name_scene_world Wk_done_3_old Wk_done_3 F_done Wk_told_0_answer_name_world F_told cdv A outer s H E hr) 
  exact (s_cons (s_for hp rfl (i_rng1 (by rfl) (g.free_range) (a_cons (e_callB (x := "max") (call_max2 (by rfl)) ca_max2 (by rfl) (g.free_max) PyProof.Rows.boot_max (a_cons e_int (a_cons (e_callB (x := "min") (call_min2 (by rfl)) ca_min2 (by rfl) (g.free_min) PyProof.Rows.boot_min (a_cons e_int (a_cons (e_callB (x := "len") call_lenAll ca_len (by rfl) (g.free_len) PySem.boot_len (a_cons (e_var 0) a_nil)) a_nil))) a_nil))) a_nil)) (g_of (S := [1]) (h_name 1 (by decide) sc_law.nd)) (s_cons (s_set 2 sc_law.nd (x_call (ps := ["_law_script", "_law_base"]) (F__law_deal) hr (by decide) (g.glo__law_deal) hx (a_cons (e_var 0) (a_cons (e_var 1) a_nil))))
  (s_cons (s_set 3 sc_law.nd (x_add e_int (x_call (ps := ["_law_deal_here", "_law_bound"]) (F__law_draw) hr (by decide) (g.glo__law_draw) hx (a_cons (e_var 2) (a_cons e_int a_nil)))))
  hF)))
  (s_one (s_ret e_bl)))
end T5

set_option Elab.async false
set_option linter.all false
set_option maxRecDepth 100000
set_option maxHeartbeats 0
namespace T5H
open PySem PySem.Spec PyProof.Rows L2 Sm T5
theorem ob_eq (s : PySem.W.SharedT) : ob s = hk.obs s.abs := obsL_eq (HandSHeadRun.getT_eq s)
theorem law_eq : c_law = (cLawL cBody05) := rfl
section
variable {P : Program} {w : World} {K : PySem.W.Frag} {mg : Str → Option Value} {base h : Heap}
theorem ok_law {f : Addr} {fd : FuncData} (F : FunD K "law" "law" (defArgs (top 41)) (defBody (top 41)) (defScope (top 41)) [] [] f fd) (g : Gf K mg) (c : He5.SaysA fa fn K) : FnOk P w K mg base (L2.CX P w) 8 f fd ["_law_script"] (spM ⟨K, mg⟩ 1 (cFn 9 c_law)) :=
  m_fn F sc_law (fun cdv A outer s H E hr => b_law g (has_Deed___eq__ g c) (hWk_Deed___init___1_tells_sets_needs_name g c) (hWk_Deed___init___4 g c) (has_Deed___init__ g c) (has_Deed___str__ g c) (hWc_Deed_read_1_text g c) (hWk_World___init___1_deeds_cells g c) (has_World___init__ g c) (hWk_World_deed_1_name g c) (has_World_deed g c) (has_World_scenes g c) (has__law_deal g c) (has__law_draw g c) (hWk_done_0_name_scene_world g c) (hWk_done_3_old g c) (hWk_done_3 g c) (has_done g c) (hWk_told_0_answer_name_world g c) (has_told g c) cdv A outer s H E hr)
theorem sp_law {H : Hp} {a : Addr} {ns : List Int} {E : XK} (hO : Only H) (hS : SqL K H a (ns.map V.int)) : spM ⟨K, mg⟩ 1 (cFn 9 c_law) [.ref a] H (fun v _ => v = .bl true) E := by
  have hF : SqF K H a (ns.map V.int) := by
    rcases hS with (h | h) | h
    · rcases hO a with z | ⟨o, xs, z⟩
      · rw [z] at h; cases h
      · rw [z] at h; cases h
    · exact .inl h
    · exact .inr h
  obtain ⟨ah', e⟩ := law05 ns
  refine ⟨fun _ => a, [], [.fl ns], ⟨fun i o h => by simp at h, fun i j h => by simp at h⟩, .cons (.fl hF) .nil, rfl, ?_⟩
  rw [law_eq, e]
  intro ρ1 H1 v _ _ r
  exact r.bl_inv
theorem facts {fa_ : Addr} (X : K.In h) (G : h.Ns mainGlobals mg) (hfa : mg ("law" : Str) = some (.ref fa_)) (c : He5.SaysA fa fn K) (e : exB K = true) :
    ∃ fd : FuncData, (∀ (s : Shared) (v : Value), BindsTo s fd ⟨[v], []⟩ [("_law_script", v)]) ∧ ∀ base : Heap, K.In base → base.Ns mainGlobals mg → FnOk P w K mg base (L2.CX P w) 8 fa_ fd ["_law_script"] (spM ⟨K, mg⟩ 1 (cFn 9 c_law)) := by
  obtain ⟨fd, F⟩ := c.def_ 34 (d := d_law) rfl
  have e1 := hfa.symm.trans (He.glo_ok X G (c.fact 55 (f := .glo "law") rfl))
  cases e1
  have b := FunD.bindsA (ps := ["_law_script"]) F fun _ _ _ _ _ _ us hl => match us, hl with | [_], _ => rfl
  exact ⟨fd, fun s v => b s [v] rfl, fun base _ _ => ok_law F (gf X G c e) c⟩
end
end T5H

/-! part T5F -/
section
open PySem PySem.W PySem.Calls PyProof.Rows
set_option Elab.async false
set_option maxRecDepth 100000
set_option maxHeartbeats 0
theorem PySem.Challenge.cw_asneverbegun_k05_worlds_known_by_hand_holds : PySem.Challenge.rw_asneverbegun_k05_worlds_known_by_hand.Holds := by
  w_on; o_law
  refine HandSHeadRun.head_any (r := OpenLaw.row PySem.Challenge.rw_asneverbegun_k05_worlds_known_by_hand) (q := view (OpenLaw.row PySem.Challenge.rw_asneverbegun_k05_worlds_known_by_hand).prog [41]) (H := T5.hk) (ob := T5.ob) (M := 60000) (loose := T5.loose) (d := HandSHeadRun.topDef (OpenLaw.row PySem.Challenge.rw_asneverbegun_k05_worlds_known_by_hand).prog 41) (kwd := []) T5H.ob_eq
    (by kernel_rfl) (fun s => by kernel_rfl) T5.run (by kernel_rfl) (by kernel_rfl) (by kernel_rfl) (by rfl) (by first | assumption | decide +kernel) (by decide +kernel) ⟨rfl, rfl, rfl, rfl, rfl, by decide +kernel⟩ ?hw ?hc
  case hw => w_witness2
  case hc =>
    refine Sm.walk_x (ol := PySem.Challenge.rw_asneverbegun_k05_worlds_known_by_hand) (top := 63) (lvl := 8) (arg := "_law_script") rfl (by decide) (by kernel_rfl) ⟨rfl, by decide, by decide⟩ ?F
    intro w mg fa h Y G hmg0
    obtain ⟨K, KX, c, ex⟩ := Y
    have hmg : mg ("law" : PySem.Str) = some (.ref fa) := by
      have e : (HandSHeadRun.topDef (OpenLaw.row PySem.Challenge.rw_asneverbegun_k05_worlds_known_by_hand).prog 41).name = ("law" : PySem.Str) := by kernel_rfl
      rw [← e]
      exact hmg0
    obtain ⟨fd, hb, hF⟩ := T5H.facts (P := (PySem.Challenge.rw_asneverbegun_k05_worlds_known_by_hand).prog) (w := w) KX G hmg c ex
    exact ⟨K, fd, Sm.spM ⟨K, mg⟩ 1 (Sm.cFn 9 T5.c_law), KX, hb, fun H a ns hl hO hS => T5H.sp_law hO hS, hF⟩
end
